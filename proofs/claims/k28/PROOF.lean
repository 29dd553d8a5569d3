import PyProof.Rows.All
import Wide.All
import OpenK.AllK
import Wide.FinOn
import HandS.Base
import HandS.Call
import HandS.List
import HandS.Comp
import HandS.Ends
import HandS.Dict
import HandS.Iter
import HandS.Text
import HandS.Words
import HandS.WordsList
import PyProof.ReprRoads
import HandS.EndBits
import HandS.IsInst
import HandS.StrMore
import HandS.TupAny
import HandS.Conv
import PyProof.ReprLen
import PyProof.StrLawsRepr
import HandS.Exc
import HandS.ExcInit
import HandS.ExcField
import HandS.ExcIs
import HandS.MakeKwOnly
import HandS.More
import HandS.TupMul
import PyProof.StrLaws
import KE.LtData
import PyProof.Rows.StrMul
import HandS.Style
import HandS.Zip
import HandS.Replace
import KE.KDictKeyed
import HandS.DictComp
import HandS.TupLen
import HandS.SlotsOwn
import HandS.Property
import KE.KDictCopyH
import PyProof.InstNe
import KE.SortKeyHeap
import HandS.SortKw
import KE.DatumOrd
import HandS.Defaults
import HandS.Rev
import HandS.Codes
import PyProof.Rows.TupTab
import PyProof.Rows.TupDisplay
import HandS.Star
import KE.DataCmp
import PyProof.TupleOfSeq
import PyProof.NeKinds
import PySem.Challenge.RW_leadsever_k28_rounds_judged
set_option Elab.async false
set_option linter.all false
set_option maxRecDepth 100000
set_option maxHeartbeats 8000000
/-! Own rules, for any of the laws of this package. -/
namespace Ld
open PySem L2 PyProof.Rows
/-! ### heaps: all stands but the well -/
/-- all that is tracked stays, but what is at wa -/
def Sb (wa : Addr) (H H' : Hp) : Prop := ∀ b o, b ≠ wa → H b = some o → H' b = some o
theorem Sb.refl (wa : Addr) (H : Hp) : Sb wa H H := fun _ _ _ e => e
theorem Sb.trans {wa : Addr} {H1 H2 H3 : Hp} (a : Sb wa H1 H2) (b : Sb wa H2 H3) : Sb wa H1 H3 := fun c o n e => b c o n (a c o n e)
theorem Sb.of {wa : Addr} {H H' : Hp} (s : Same H H') : Sb wa H H' := fun b o _ e => s b o e
theorem Sb.put (wa : Addr) (H : Hp) (o : HO) : Sb wa H (upd H wa o) := fun b u n e => by
  rw [upd_ne n]
  exact e
theorem Same.new {H : Hp} {p : Addr} {o : HO} (h : H p = none) : Same H (upd H p o) := fun b u e => by
  rw [upd_ne (ne_of_none e h)]
  exact e
/-- the well: its two numbers -/
def wellKv (d m : Int) : List (Key × V) := [(Sum.inr "digits", .int d), (Sum.inr "mixed", .int m)]
def Well (H : Hp) (wa : Addr) : Prop := ∃ d m : Int, H wa = some (.dK (wellKv d m)) ∧ 0 ≤ d ∧ 0 ≤ m ∧ m < 2 ^ 40
theorem Well.same {H H' : Hp} {wa : Addr} (W : Well H wa) (s : Same H H') : Well H' wa := by
  obtain ⟨d, m, h, r⟩ := W
  exact ⟨d, m, s _ _ h, r⟩
/-- what the well is not -/
def NotWell : HO → Prop
  | .dK kvs => kvs.length ≠ 2
  | _ => True
theorem Well.ne {H : Hp} {wa b : Addr} {o : HO} (W : Well H wa) (e : H b = some o) (n : NotWell o) : b ≠ wa := by
  obtain ⟨d, m, h, _⟩ := W
  intro z
  subst z
  rw [h] at e
  cases e
  exact n rfl
theorem Well.lst {H : Hp} {wa b : Addr} {xs : List V} (W : Well H wa) (e : H b = some (.lst xs)) : b ≠ wa := W.ne e trivial
section
variable {K : PySem.W.Frag} {H H' : Hp} {wa a : Addr} {xs : List V}
theorem rd_keep {u : HO} (W : Well H wa) (s : Sb wa H H') (n : NotWell u) (h : Rd H a u) : Rd H' a u := by
  rcases h with h | ⟨o, h⟩
  · exact .inl (s a _ (W.ne h n) h)
  · exact .inr ⟨o, s a _ (W.ne h trivial) h⟩
theorem seqL (W : Well H wa) (s : Sb wa H H') (h : SqL K H a xs) : SqL K H' a xs := by
  rcases h with h | h
  · exact .inl (rd_keep W s trivial h)
  · exact .inr h
theorem seqT (W : Well H wa) (s : Sb wa H H') (h : SqT K H a xs) : SqT K H' a xs := by
  rcases h with h | h
  · exact .inl (rd_keep W s trivial h)
  · exact .inr h
theorem same_T (s : Same H H') (h : SqT K H a xs) : SqT K H' a xs := by
  rcases h with (h | ⟨o, h⟩) | h
  · exact .inl (.inl (s _ _ h))
  · exact .inl (.inr ⟨o, s _ _ h⟩)
  · exact .inr h
end
/-! ### data that stays -/
section
variable {K : PySem.W.Frag} {H H' : Hp}
mutual
theorem dp_mono (hL : ∀ a xs, SqL K H a xs → SqL K H' a xs) (hT : ∀ a xs, SqT K H a xs → SqT K H' a xs) : ∀ (d : PyData) (v : V), Dp K H v d → Dp K H' v d
  | .none, _, h => by cases h; exact .non
  | .bool _, _, h => by cases h; exact .bl _
  | .int _, _, h => by cases h; exact .int _
  | .str _, _, h => by cases h; exact .str _
  | .list ds, _, h => by
    cases h with
    | lst a b => exact .lst (hL _ _ a) (dpAll_mono hL hT ds _ b)
  | .tuple ds, _, h => by
    cases h with
    | tup a b => exact .tup (hT _ _ a) (dpAll_mono hL hT ds _ b)
  | .dict _, _, h => by cases h
theorem dpAll_mono (hL : ∀ a xs, SqL K H a xs → SqL K H' a xs) (hT : ∀ a xs, SqT K H a xs → SqT K H' a xs) : ∀ (ds : List PyData) (vs : List V), DpAll K H vs ds → DpAll K H' vs ds
  | [], _, h => by cases h; exact .nil
  | d :: ds, _, h => by
    cases h with
    | cons a b => exact .cons (dp_mono hL hT d _ a) (dpAll_mono hL hT ds _ b)
end
theorem dp_same {v : V} {d : PyData} (s : Same H H') (h : Dp K H v d) : Dp K H' v d := dp_mono (fun _ _ q => s.seq q) (fun _ _ q => same_T s q) d v h
theorem dp_sb {wa : Addr} {v : V} {d : PyData} (W : Well H wa) (s : Sb wa H H') (h : Dp K H v d) : Dp K H' v d := dp_mono (fun _ _ q => seqL W s q) (fun _ _ q => seqT W s q) d v h
theorem dp_strs : ∀ ws : List Str, DpAll K H (ws.map V.str) (ws.map PyData.str)
  | [] => .nil
  | w :: ws => .cons (.str w) (dp_strs ws)
theorem dp_bools : ∀ ws : List Bool, DpAll K H (ws.map V.bl) (ws.map PyData.bool)
  | [] => .nil
  | w :: ws => .cons (.bl w) (dp_bools ws)
theorem dp_append : ∀ {vs ws : List V} {ds es : List PyData}, DpAll K H vs ds → DpAll K H ws es → DpAll K H (vs ++ ws) (ds ++ es)
  | [], _, _, _, .nil, h => h
  | _ :: _, _, _, _, .cons a b, h => .cons a (dp_append b h)
end
/-! ### numbers of any size that a script may give -/
section
variable {X : Cx}
def CMulB (i j : Int) : Prop := Builtin.Int.intBits i + Builtin.Int.intBits j ≤ 2 ^ 27
def CPowB (i j : Int) : Prop := 0 ≤ j ∧ (Builtin.Int.intBits i : Int) * j ≤ 2 ^ 27
theorem mulB_ok {i j : Int} (h : CMulB i j) : IntMulOk i j := by
  intro z
  have z2 := (Bool.and_eq_true_iff.mp z).2
  have z3 := of_decide_eq_true (show decide (((Builtin.Int.intBits i + Builtin.Int.intBits j : Nat) : Int) > bitsLine) = true from z2)
  have e : bitsLine = 2 ^ 27 := rfl
  rw [e] at z3
  have h' : Builtin.Int.intBits i + Builtin.Int.intBits j ≤ 2 ^ 27 := h
  omega
theorem op_mulB : OpR X (binaryOp .Mult) (rI CMulB fun i j => .int (i * j)) := opI fun i j t u s Q E hc q => mul_int q (mulB_ok hc)
theorem op_powB : OpR X (binaryOp .Pow) (rI CPowB fun i j => .int (i ^ j.toNat)) := opI fun i j t u s Q E hc q => pow_int hc.1 hc.2 q
theorem bits_of {i : Int} {n : Nat} (h : i.natAbs < 2 ^ n) : Builtin.Int.intBits i ≤ n := by
  unfold Builtin.Int.intBits
  split
  · exact Nat.zero_le _
  · rename_i hz
    have hz : ¬ i = 0 := fun e => hz (by rw [e]; rfl)
    have h0 : i.natAbs ≠ 0 := fun e => hz (Int.natAbs_eq_zero.mp e)
    have := (Nat.log2_lt h0).mpr h
    omega
theorem of_bits {i : Int} {n : Nat} (h : Builtin.Int.intBits i ≤ n) : i.natAbs < 2 ^ n := by
  unfold Builtin.Int.intBits at h
  by_cases hz : i = 0
  · subst hz
    exact Nat.two_pow_pos n
  · rw [if_neg (by simpa using hz)] at h
    exact (Nat.log2_lt (fun e => hz (Int.natAbs_eq_zero.mp e))).mp (by omega)
end
end Ld
/-! Defs that need to know that no repr runs around them. -/
namespace Ld
open PySem L2 PyProof.Rows
/-- the promise of a def, wherever no repr runs around -/
structure FnG (P : Program) (w : World) (K : PySem.W.Frag) (mg : Str → Option Value) (base : Heap) (k : Nat) (f : Addr) (fd : FuncData) (ps : List Str) (sp : Sp) : Prop where
  long : ∀ vs H Q E, sp vs H Q E → vs.length = ps.length
  goes : ∀ (A : Around) (outer : List Env) (s : Shared) (H : Hp) (args : Args) (us : List Value) (vs : List V) (Q : VK) (E : XK), A.guards = some [] → Room k A → Env0 P w K mg base A outer s H →
    BindsTo s fd args (ps.zip us) → Vals vs us → sp vs H Q E → codeAny (model P w) A (.call (.ref f) args) (CR CX0 outer P w H s Q E) s
section
variable {P : Program} {w : World} {K : PySem.W.Frag} {mg : Str → Option Value} {base : Heap} {k : Nat} {f : Addr} {fd : FuncData} {ps : List Str} {sp : Sp}
theorem FnG.of (F : FnOk P w K mg base CX0 k f fd ps sp) : FnG P w K mg base k f fd ps sp := ⟨F.len, fun A outer s H args us vs Q E _ => F.run A outer s H args us vs Q E⟩
/-- what a body leaves is what the call leaves -/
theorem ends_of {X : Cx} {pins : List (Addr × Obj)} {s' : Shared} {Q : VK} (hx : X.ex = []) {σ' : L2.St} {H' : Hp} {v : V} {u : Value} (J : Inv X pins σ' H' s') (r : RelV v u) (q : Q v H') :
    CE X.outer X.prog X.w X.H_0 X.s_0 Q u s' := by
  have b := J.base
  rw [hx] at b
  exact ⟨v, H', J.os, J.bare, b, J.hok, r, q⟩
/-- a def of the text by its body -/
theorem Fun.okG {x qual : Str} {st : Stmt} {N : List Str} (F : Fun K x qual st f fd) (S : FnScope N ps (defScope st)) (long : ∀ vs H Q E, sp vs H Q E → vs.length = ps.length)
    (body : ∀ (cdv : Value) (A : Around) (outer : List Env) (s : Shared) (H : Hp) (vs : List V) (Q : VK) (E : XK), A.guards = some [] → Room k (A.deeper (envOfC qual (defScope st) s.heap.objs.size f cdv)) → sp vs H Q E →
      ∃ t, PSs (cxOf CX0 P w K mg base N qual (defScope st) f cdv A outer s H E).nox (defBody st) t ∧ t { nx := fun _ H' => Q .non H', rt := Q } (start N vs) H) : FnG P w K mg base (k + 1) f fd ps sp := by
  obtain ⟨oc, od, kV, doc, pm, an, cdv, ct, osl, rfl, lk, hcd⟩ := F.ex
  refine ⟨long, fun A outer s H args us vs Q E hg hr e0 hb r hsp => ?_⟩
  have up : ∀ b o, base.get? b = some o → s.heap.get? b = some o := fun b o e => (e0.bs b o e).1
  have KX : K.In s.heap := e0.mod.kin.keeps up
  have kinds : ∀ y ∈ ps.zip us, (defScope st).names.lookup y.1 = some .local ∨ ((defScope st).names.lookup y.1 = some .cell ∧ ((cellsFrom (s.heap.objs.size + 1) (defScope st).names []).lookup y.1).isSome = true) := by
    rintro ⟨n, v⟩ hy
    rcases S.par n (List.of_mem_zip hy).1 with q | q
    · exact Or.inl q
    · exact Or.inr ⟨q, PySem.W.cellsFrom_some _ _ _ (Or.inl q)⟩
  refine codeAny_call_function hr.depth (KX _ _ lk) rfl S.co S.gen rfl (PySem.W.codeRec_of KX hcd) (hb _ _ _ _ ?_)
  refine wpAny_newFunctionEnv_cells S.kind kinds fun env he s1 x => ?_
  subst he
  refine ⟨(e0.mod.nolimit.keeps up).keeps x.toInCall.keep, codeAny_func ?_⟩
  obtain ⟨t, ht, hq⟩ := body cdv A outer s H vs Q E hg (hr.deeper _) hsp
  refine wpAny_mono (ht.nox.run [] s1 (start N vs) H _ (inv_start S hr.hd e0 (long _ _ _ _ hsp) r x) hq) (fun fl s' hs => ?_) fun e s' hs => hs
  cases fl with
  | ret u =>
    obtain ⟨v, σ', H', J, r, q⟩ := hs
    exact ends_of rfl J r q
  | next =>
    obtain ⟨σ', H', J, q⟩ := hs
    exact ends_of (v := .non) rfl J rfl q
  | brk =>
    obtain ⟨_, _, _, q⟩ := hs
    exact q.elim
  | cont =>
    obtain ⟨_, _, _, q⟩ := hs
    exact q.elim
end
section
variable {X : Cx} {k : Nat} {f : Addr} {fd : FuncData} {ps : List Str} {sp : Sp} {x : Str} {p pos : Pos} {e : Expr} {es : List Expr} {t : TA}
/-- f(e, ..) of such a def -/
theorem pe_callG (F : FnG X.prog X.w X.K X.mg X.base k f fd ps sp) (hG : X.A.guards = some []) (hr : Room k X.A) (hg : Gl X x) (hm : X.mg x = some (.ref f)) (hk : PySem.W.keepIn X.K (.ref f) = true) (hb : Binds X.K fd ps [])
    (ha : PA X (e :: es) t) (hdb : (x == ("__debug__" : Str)) = false := by decide) (he : starEach (e :: es) X.env = (false, eval e X.env) :: starEach es X.env := by rfl)
    (hpl : (backTo pos (starEach es X.env)).any (·.1) = false := by rfl) : PE X (.Call (.Name x p) (e :: es) [] pos) (tCall sp [] E0 t) := by
  refine ⟨fun pins s σ H Q I h => wpAny_Call_Name_kw (ld_glob I hg hm ?_ hdb)⟩
  refine PySem.W.callWith_K (h₀ := X.base) I.ok.mod.kin hk (thn (ha.run pos pins s σ H _ I h) fun us s1 ⟨vs, H1, I1, r, q⟩ => ⟨I1.kIn, ?_⟩) he hpl
  have q : sp (vs ++ []) H1 Q E0 := q
  rw [List.append_nil] at q
  have hl : us.length = ps.length := by
    rw [← r.length]
    exact F.long _ _ _ _ q
  have hb1 := hb s1 us I1.kIn (by rw [List.append_nil]; exact hl)
  rw [List.append_nil] at hb1
  refine wpAny_call (codeAny_mono (F.goes X.A X.stack s1 H1 ⟨us, []⟩ us vs Q E0 hG hr I1.env0 hb1 r q) fun z s2 hq => ?_)
  match z, hq with
  | .ok (.ret u), hq => exact I1.after hq
  | .ok .next, hq => exact False.elim hq
  | .ok .brk, hq => exact False.elim hq
  | .ok .cont, hq => exact False.elim hq
  | .error e, hq => exact False.elim hq
/-- repr of data -/
def Rds (K : PySem.W.Frag) (P : Program) (w : World) (H : Hp) (v : V) (d : PyData) : Prop := ∀ h : Heap, HOk P w H h → K.In h → ∀ u, RelV v u → ∃ as, Reads h u d as ∧ (d.hasDict = true → ¬ sysModules ∈ as)
def Small (d : PyData) : Prop := d.showable = true ∧ d.depth ≤ 40 ∧ d.shown.length ≤ sizeLine
theorem call_repr (hG : X.A.guards = some []) (hu : X.A.units + 64 < cLine) : CallR X (.builtin "repr") (fun xs H Q => ∃ v d, xs = [v] ∧ Rds X.K X.prog X.w H v d ∧ Small d ∧ Q (.str d.shown) H) := by
  intro pins s σ H xs us Q I r h
  obtain ⟨v, d, rfl, hR, ⟨h1, h2, h3⟩, q⟩ := h
  obtain ⟨u, rfl, ru⟩ := vals1 r
  obtain ⟨as, rd, hs⟩ := hR s.heap I.hok I.kIn u ru
  have fin : ∀ h' t tk, (∀ b o, s.heap.get? b = some o → h'.get? b = some o) → EP X pins σ Q (.str d.shown t) { s with heap := h', toks := tk } := fun h' t tk kp =>
    ⟨.str d.shown, H, I.kept kp, ⟨t, rfl⟩, q⟩
  cases v with
  | ref a =>
    cases ru
    exact repr_of_reads' rd h1 hs hG (by omega) (fun _ _ e => e) fin h3
  | non =>
    cases ru
    cases rd
    simp only [PyData.shown] at fin
    exact P.repr_of_none (fin s.heap _ _ fun _ _ e => e)
  | bl b =>
    cases ru
    cases rd
    simp only [PyData.shown] at fin
    exact P.repr_of_bool (fin s.heap _ _ fun _ _ e => e)
  | int i =>
    obtain ⟨t, rfl⟩ := ru
    cases rd
    simp only [PyData.shown] at fin
    exact P.repr_of_int (by simpa [PyData.showable] using h1) (fin s.heap _ _ fun _ _ e => e)
  | str x =>
    obtain ⟨t, rfl⟩ := ru
    cases rd
    simp only [PyData.shown] at fin h3
    exact P.repr_of_str (fin s.heap _ _ fun _ _ e => e) h3
  | byt b =>
    obtain ⟨t, rfl⟩ := ru
    cases rd
  | flt b =>
    obtain ⟨t, rfl⟩ := ru
    cases rd
  | ty n =>
    cases ru
    cases rd
end
end Ld
/-! The end of a law whose defs are of the kind FnG; the script's bits are told. -/
namespace Ld
open PySem L2 PyProof.Rows
section
variable {P : Program} {w : World} {K : PySem.W.Frag} {mg mb : Str → Option Value} {k : Nat} {fa a : Addr} {fd : FuncData} {x : Str} {sp : Sp} {s : Shared} {vs : List Value} {ns : List Int}
/-- what stands behind the law's call -/
def Behind (s : Shared) (r : Result) (s' : Shared) : Prop := r = .ok (.ret (.bool true)) ∧ OldK s.heap s'.heap ∧ s'.os = s.os ∧ AllBare s'.gens
/-- with nothing tracked but (perhaps) the script, locked -/
structure Quiet (P : Program) (w : World) (K : PySem.W.Frag) (a : Addr) (H : Hp) (s : Shared) : Prop where
  ok : HOk P w H s.heap
  one : ∀ b o, H b = some o → b = a ∧ K.lookup a = none ∧ ∃ ob xs, o = .frz ob (.lst xs) ∧ ∃ its n, ob.data = .seq its n
theorem law_goes {H : Hp} (KX : K.In s.heap) (hns : s.heap.Ns mainGlobals mg) (hb : s.heap.Ns builtinsNs mb) (hbb : ∀ x : Str, x ≠ "__name__" → mb x = bootBuiltins x) (hlim : s.heap.NoLimit) (hg : s.gens = #[])
    (q : Quiet P w K a H s) (hr : Room k callerA) (F : ∀ base : Heap, K.In base → base.Ns mainGlobals mg → FnG P w K mg base k fa fd [x] sp) (hbind : ∀ (s : Shared) (u : Value), BindsTo s fd ⟨[u], []⟩ [(x, u)])
    (hsp : sp [.ref a] H (fun v _ => v = .bl true) E0) : codeAny (model P w) callerA (.call (.ref fa) ⟨[.ref a], []⟩) (Behind s) s := by
  have free : ∀ {b : Addr} {o : Obj}, s.heap.get? b = some o → (∀ its n, o.data ≠ .seq its n) → H b = none := fun {b o} e d => by
    cases z : H b with
    | none => rfl
    | some u =>
      obtain ⟨rfl, _, ob, xs, rfl, its, n, hd⟩ := q.one b u z
      obtain ⟨e2, _⟩ := q.ok b _ z
      rw [e] at e2
      cases e2
      exact absurd hd (d its n)
  have nsb : ∀ {b : Addr} {m : Str → Option Value}, s.heap.Ns b m → (hidT s.heap H).Ns b m := fun {b m} ⟨o, es, ep, e, d, r⟩ =>
    ⟨o, es, ep, hidT_get e (free e fun its n z => by rw [d] at z; cases z), d, r⟩
  have Kb : K.In (hidT s.heap H) := fun b o e => hidT_get (KX b o e) (by
    cases z : H b with
    | none => rfl
    | some u =>
      obtain ⟨rfl, hk, _⟩ := q.one b u z
      rw [hk] at e
      cases e)
  have md : Mod K mg (hidT s.heap H) := ⟨Kb, nsb hns, ⟨mb, nsb hb, hbb⟩, let ⟨mc, h1, h2⟩ := hlim; ⟨mc, nsb h1, h2⟩⟩
  have none_in : ∀ b : Addr, ¬ b ∈ ([] : List Addr) := fun b z => nomatch z
  have e0 : Env0 P w K mg (hidT s.heap H) callerA [] s H := ⟨rfl, md, fun b o e => of_hidT e, Nat.le_of_eq (hidT_size _ _), trivial, fun b hb => absurd hb (none_in b), q.ok, .of_eq hg⟩
  refine codeAny_mono ((F _ Kb (nsb hns)).goes callerA [] s H ⟨[.ref a], []⟩ [.ref a] [.ref a] _ E0 rfl hr e0 (hbind s (.ref a)) (.cons rfl .nil) hsp) fun r s' h => ?_
  match r, h with
  | .error e, h => exact False.elim h
  | .ok .next, h => exact False.elim h
  | .ok .brk, h => exact False.elim h
  | .ok .cont, h => exact False.elim h
  | .ok (.ret u), h =>
    obtain ⟨v, H', os, bare, un, ok', rv, (rfl : v = .bl true)⟩ := h
    cases (show u = Value.bool true from rv)
    refine ⟨rfl, OldK.of_keep fun b o e => ?_, os, bare⟩
    cases z : H b with
    | none => exact un.keep b o e z (none_in b) (none_in b)
    | some u =>
      obtain ⟨_, _, ob, xs, rfl, _⟩ := q.one b u z
      obtain ⟨e1, _⟩ := q.ok b _ z
      obtain ⟨e2, _⟩ := ok' b _ (un.frzs b ob _ z)
      rw [e] at e1
      cases e1
      exact e2
theorem ints_vals : ∀ {vs : List Value} {ns : List Int}, IntsAre vs ns → Vals (ns.map V.int) vs
  | _, _, .nil => .nil
  | _, _, .cons n t h => .cons ⟨t, rfl⟩ (ints_vals h)
theorem law_goes_any (KX : K.In s.heap) (hns : s.heap.Ns mainGlobals mg) (hb : s.heap.Ns builtinsNs mb) (hbb : ∀ x : Str, x ≠ "__name__" → mb x = bootBuiltins x) (hlim : s.heap.NoLimit) (hg : s.gens = #[])
    (ha : s.heap.get? a = some { cls := .type "list", data := .seq vs.toArray }) (hi : IntsAre vs ns) (hl : ns.length ≤ sizeLine) (hr : Room k callerA)
    (F : ∀ base : Heap, K.In base → base.Ns mainGlobals mg → FnG P w K mg base k fa fd [x] sp) (hbind : ∀ (s : Shared) (u : Value), BindsTo s fd ⟨[u], []⟩ [(x, u)])
    (hsp : ∀ H : Hp, SqL K H a (ns.map V.int) → sp [.ref a] H (fun v _ => v = .bl true) E0) : codeAny (model P w) callerA (.call (.ref fa) ⟨[.ref a], []⟩) (Behind s) s := by
  have rv := ints_vals hi
  cases hk : K.lookup a with
  | some o =>
    have e := KX a o hk
    rw [ha] at e
    cases e
    have sq : SqL K (fun _ => none) a (ns.map V.int) := .inr ⟨_, vs.toArray, _, hk, rfl, rfl, rfl, by rw [List.size_toArray, hi.length]; exact hl, by simpa using rv⟩
    refine law_goes KX hns hb hbb hlim hg ⟨fun b u z => ?_, fun b u z => ?_⟩ hr F hbind (hsp _ sq)
    · exact absurd (show (none : Option HO) = some u from z) (by simp)
    · exact absurd (show (none : Option HO) = some u from z) (by simp)
  | none =>
    have get : ∀ b u, (fun b => if b = a then some (HO.frz { cls := .type "list", data := .seq vs.toArray } (.lst (ns.map V.int))) else none : Hp) b = some u → b = a ∧ u = .frz { cls := .type "list", data := .seq vs.toArray } (.lst (ns.map V.int)) := fun b u z => by
      have z : (if b = a then some (HO.frz { cls := .type "list", data := .seq vs.toArray } (.lst (ns.map V.int))) else none) = some u := z
      by_cases h : b = a
      · rw [if_pos h] at z
        exact ⟨h, (Option.some.inj z).symm⟩
      · rw [if_neg h] at z
        cases z
    refine law_goes (H := fun b => if b = a then some (.frz { cls := .type "list", data := .seq vs.toArray } (.lst (ns.map V.int))) else none) KX hns hb hbb hlim hg ⟨fun b u z => ?_, fun b u z => ?_⟩ hr F hbind (hsp _ (.inl (.inr ⟨_, if_pos rfl⟩)))
    · obtain ⟨rfl, rfl⟩ := get b u z
      exact ⟨ha, by rw [List.length_map]; exact hl, vs, _, rv, ha⟩
    · obtain ⟨rfl, rfl⟩ := get b u z
      exact ⟨rfl, hk, _, _, rfl, _, _, rfl⟩
end
/-- what k_head leaves open -/
theorem walk_G {l : PySem.W.OpenLaw} {n k : Nat} {q : Program} {loose : List Str} {XP : (Str → Option Value) → Heap → Prop} {YP : World → Heap → Prop} {d : DefRec} {K : Params → PySem.W.Frag} {sp : World → Sp} {x : Str}
    (hn : l.most = some n) (hn2 : n ≤ sizeLine) (hdf : d.params.defaults = []) (hr : Room k callerA) (hY : ∀ (w : World) (h : Heap), YP w h → (K w.params).In h)
    (F : ∀ (w : World) (mg : Str → Option Value) (fa : Addr) (h : Heap), (K w.params).In h → h.Ns mainGlobals mg → mg d.name = some (.ref fa) → ∃ fd : FuncData, (∀ (s : Shared) (u : Value), BindsTo s fd ⟨[u], []⟩ [(x, u)]) ∧
      ∀ base : Heap, (K w.params).In base → base.Ns mainGlobals mg → FnG l.prog w (K w.params) mg base k fa fd [x] (sp w))
    (hsp : ∀ (w : World) (H : Hp) (a : Addr) (ns : List Int), ns.length ≤ n → (∀ z ∈ ns, Builtin.Int.intBits z ≤ 1048576) → SqL (K w.params) H a (ns.map V.int) → sp w [.ref a] H (fun v _ => v = .bl true) E0) :
    PySem.W.WalkO q loose XP YP l.row.toRowW d [] (fun f vs => PySem.call f vs) := by
  refine Att.attach_callB hn hdf fun w s₀ s₁ mg mb fa o pm cd doc a vs ns G Y ho hd hcd hmg hobj hints hlen hbits hg => ?_
  have KX := hY w _ Y
  obtain ⟨fd, hb, hF⟩ := F w mg fa _ KX G.T.g hmg
  exact law_goes_any KX G.T.g G.T.b G.T.builtins G.T.nolimit hg hobj hints (Nat.le_trans hlen hn2) hr hF hb fun H hS => hsp w H a ns hlen hbits hS
end Ld
/-! Things that a law draws: data, with a small dict at most. -/
namespace Ld
open PySem L2 PyProof.Rows
/-- data without a dict, or a dict of at most one text -/
inductive Lf (K : PySem.W.Frag) (H : Hp) : V → PyData → Prop
  | dat {v : V} {d : PyData} : Dp K H v d → Lf K H v d
  | dct0 {a : Addr} : H a = some (.dK []) → Lf K H (.ref a) (.dict [])
  | dct1 {a : Addr} {x y : Str} : H a = some (.dK [(Sum.inr x, .str y)]) → Lf K H (.ref a) (.dict [(.str x, .str y)])
/-- such a one, or a tuple of words with such a one among them -/
inductive Th (K : PySem.W.Frag) (H : Hp) : V → PyData → Prop
  | lf {v : V} {d : PyData} : Lf K H v d → Th K H v d
  | tup {a : Addr} {ws us : List Str} {v : V} {d : PyData} : SqT K H a (ws.map V.str ++ v :: us.map V.str) → Lf K H v d → Th K H (.ref a) (.tuple (ws.map PyData.str ++ d :: us.map PyData.str))
section
variable {K : PySem.W.Frag} {H H' : Hp} {v : V} {d : PyData} {wa : Addr}
theorem Lf.same (s : Same H H') (h : Lf K H v d) : Lf K H' v d := by
  cases h with
  | dat h => exact .dat (dp_same s h)
  | dct0 h => exact .dct0 (s _ _ h)
  | dct1 h => exact .dct1 (s _ _ h)
theorem Th.same (s : Same H H') (h : Th K H v d) : Th K H' v d := by
  cases h with
  | lf h => exact .lf (h.same s)
  | tup a h => exact .tup (same_T s a) (h.same s)
theorem Lf.sb (W : Well H wa) (s : Sb wa H H') (h : Lf K H v d) : Lf K H' v d := by
  cases h with
  | dat h => exact .dat (dp_sb W s h)
  | dct0 h => exact .dct0 (s _ _ (W.ne h (by show (0 : Nat) ≠ 2; decide)) h)
  | dct1 h => exact .dct1 (s _ _ (W.ne h (by show (1 : Nat) ≠ 2; decide)) h)
theorem Th.sb (W : Well H wa) (s : Sb wa H H') (h : Th K H v d) : Th K H' v d := by
  cases h with
  | lf h => exact .lf (h.sb W s)
  | tup a h => exact .tup (seqT W s a) (h.sb W s)
end
/-! ### what repr needs of it -/
mutual
theorem dp_nodict {K : PySem.W.Frag} {H : Hp} : ∀ (d : PyData) (v : V), Dp K H v d → d.hasDict = false
  | .none, _, _ => rfl
  | .bool _, _, _ => rfl
  | .int _, _, _ => rfl
  | .str _, _, _ => rfl
  | .list ds, _, h => by
    cases h with
    | lst a b => simpa [PyData.hasDict] using dpAll_nodict ds _ b
  | .tuple ds, _, h => by
    cases h with
    | tup a b => simpa [PyData.hasDict] using dpAll_nodict ds _ b
  | .dict _, _, h => by cases h
theorem dpAll_nodict {K : PySem.W.Frag} {H : Hp} : ∀ (ds : List PyData) (vs : List V), DpAll K H vs ds → PyData.hasDictAll ds = false
  | [], _, _ => rfl
  | d :: ds, _, h => by
    cases h with
    | cons a b => simp [PyData.hasDictAll, dp_nodict d _ a, dpAll_nodict ds _ b]
end
section
variable {K : PySem.W.Frag} {P : Program} {w : World} {H : Hp} {h : Heap}
mutual
theorem dp_reads (ok : HOk P w H h) (kin : K.In h) : ∀ (d : PyData) (v : V) (u : Value), Dp K H v d → RelV v u → ∃ as, Reads h u d as
  | .none, _, _, z, r => by cases z; cases r; exact ⟨_, .none⟩
  | .bool b, _, _, z, r => by cases z; cases r; exact ⟨_, .bool b⟩
  | .int i, _, _, z, r => by cases z; obtain ⟨t, rfl⟩ := r; exact ⟨_, .int i t⟩
  | .str x, _, _, z, r => by cases z; obtain ⟨t, rfl⟩ := r; exact ⟨_, .str x t⟩
  | .list ds, _, _, z, r => by
    cases z with
    | lst hs ha =>
      cases r
      rcases hs with hs | ⟨o, its, n, hk, hc, hd, hs, hz, rv⟩
      · obtain ⟨z, its, n, rv, e⟩ := hs.ok ok
        obtain ⟨as, hr⟩ := dpAll_reads ok kin ds _ its ha rv
        exact ⟨_, .list e rfl rfl hr⟩
      · obtain ⟨as, hr⟩ := dpAll_reads ok kin ds _ its.toList ha rv
        exact ⟨_, .list (kin _ o hk) hc hs hr⟩
  | .tuple ds, _, _, z, r => by
    cases z with
    | tup hs ha =>
      cases r
      rcases hs with hs | ⟨o, its, n, hk, hc, hs, hz, rv⟩
      · obtain ⟨z, its, rv, o, e, c, n, dt⟩ := hs.ok ok
        obtain ⟨as, hr⟩ := dpAll_reads ok kin ds _ its ha rv
        exact ⟨_, .tuple e c dt hr⟩
      · obtain ⟨as, hr⟩ := dpAll_reads ok kin ds _ its.toList ha rv
        exact ⟨_, .tuple (kin _ o hk) hc hs hr⟩
  | .dict _, _, _, z, _ => by cases z
theorem dpAll_reads (ok : HOk P w H h) (kin : K.In h) : ∀ (ds : List PyData) (vs : List V) (us : List Value), DpAll K H vs ds → Vals vs us → ∃ as, ReadsAll h us ds as
  | [], _, _, z, r => by cases z; cases r; exact ⟨_, .nil⟩
  | d :: ds, _, _, z, r => by
    cases z with
    | cons h1 h2 =>
      cases r with
      | cons r1 r2 =>
        obtain ⟨as, q1⟩ := dp_reads ok kin d _ _ h1 r1
        obtain ⟨bs, q2⟩ := dpAll_reads ok kin ds _ _ h2 r2
        exact ⟨_, .cons q1 q2⟩
end
theorem reads_strs : ∀ (ws : List Str) (us : List Value), Vals (ws.map V.str) us → ReadsAll h us (ws.map PyData.str) []
  | [], _, r => by cases r; exact .nil
  | w :: ws, _, r => by
    cases r with
    | cons r1 r2 =>
      obtain ⟨t, rfl⟩ := r1
      exact .cons (as := []) (bs := []) (.str w t) (reads_strs ws _ r2)
theorem readsAll_append : ∀ {us vs : List Value} {ds es : List PyData} {as bs : List Addr}, ReadsAll h us ds as → ReadsAll h vs es bs → ReadsAll h (us ++ vs) (ds ++ es) (as ++ bs)
  | _, _, _, _, _, _, .nil, r => r
  | _, _, _, _, _, bs, .cons (as := as) (bs := cs) a b, r => by
    rw [List.append_assoc]
    exact .cons a (readsAll_append b r)
theorem Lf.rds {v : V} {d : PyData} (z : Lf K H v d) : Rds K P w H v d := fun h ok kin u r => by
  cases z with
  | dat z =>
    obtain ⟨as, q⟩ := dp_reads ok kin d v u z r
    exact ⟨as, q, fun e => by rw [dp_nodict d v z] at e; cases e⟩
  | @dct0 a z =>
    cases r
    obtain ⟨_, hm, vs, kv, o, es, ep, e1, e2, e3, _, e4, _⟩ := dk_of ok z
    cases kv
    have e5 : es.toList = [] := by
      cases hh : es.toList with
      | nil => rfl
      | cons x y => rw [hh] at e4; cases e4
    refine ⟨_, .dict (kvs := []) (as := []) (bs := []) e1 e2.1 e3 (by rw [e5]; exact .nil) (by rw [e5]; exact .nil), fun _ hin => ?_⟩
    rcases List.mem_cons.mp hin with q | q
    · rw [← q] at hm
      exact absurd hm (by decide)
    · cases q
  | @dct1 a x y z =>
    cases r
    obtain ⟨_, hm, vs, kv, o, es, ep, e1, e2, e3, _, e4, _⟩ := dk_of ok z
    cases kv with
    | @cons _ kv1 _ _ q kv2 =>
      cases kv2
      obtain ⟨q1, q2⟩ := q
      obtain ⟨k1, v1⟩ := kv1
      cases q1
      obtain ⟨t, (rfl : v1 = _)⟩ := q2
      cases hh : es.toList with
      | nil => rw [hh] at e4; cases e4
      | cons x1 x2 =>
        rw [hh] at e4
        cases e4 with
        | cons g1 g2 g3 =>
          cases g3
          have g4 : ∃ t', x1.key = .str x t' := by
            rcases keyIs_shape (show keyIs (.inr x) x1.key = true from g1) with ⟨i, t', z1, _⟩ | ⟨y', t', z1, z2⟩
            · cases z1
            · cases z1
              exact ⟨t', z2⟩
          obtain ⟨t', g4⟩ := g4
          refine ⟨_, .dict (kvs := [(.str x, .str y)]) (as := []) (bs := []) e1 e2.1 e3 ?_ ?_, fun _ hin => ?_⟩
          · rw [hh]
            show ReadsAll h [x1.key] [PyData.str x] []
            rw [g4]
            exact .cons (as := []) (bs := []) (.str x t') .nil
          · rw [hh]
            show ReadsAll h [x1.val] [PyData.str y] []
            rw [g2]
            exact .cons (as := []) (bs := []) (.str y t) .nil
          · rcases List.mem_cons.mp hin with q | q
            · rw [← q] at hm
              exact absurd hm (by decide)
            · cases q
theorem reads_cut (ws us : List Str) {v : V} {l : List Value} (r : Vals (ws.map V.str ++ v :: us.map V.str) l) : ∃ l1 u l2, l = l1 ++ u :: l2 ∧ Vals (ws.map V.str) l1 ∧ RelV v u ∧ Vals (us.map V.str) l2 := by
  induction ws generalizing l with
  | nil =>
    cases r with
    | cons r1 r2 => exact ⟨[], _, _, rfl, .nil, r1, r2⟩
  | cons w ws ih =>
    cases r with
    | cons r1 r2 =>
      obtain ⟨l1, u, l2, e, a, b, c⟩ := ih r2
      exact ⟨_ :: l1, u, l2, by rw [e]; rfl, .cons r1 a, b, c⟩
theorem hasDict_strs : ∀ ws : List Str, PyData.hasDictAll (ws.map PyData.str) = false
  | [] => rfl
  | w :: ws => by simp [PyData.hasDictAll, PyData.hasDict, hasDict_strs ws]
theorem hasDict_append : ∀ ds es : List PyData, PyData.hasDictAll (ds ++ es) = (PyData.hasDictAll ds || PyData.hasDictAll es)
  | [], es => by simp [PyData.hasDictAll]
  | d :: ds, es => by
    rw [List.cons_append]
    simp only [PyData.hasDictAll, hasDict_append ds es, Bool.or_assoc]
theorem Th.rds {v : V} {d : PyData} (z : Th K H v d) : Rds K P w H v d := fun h ok kin u r => by
  cases z with
  | lf z => exact z.rds h ok kin u r
  | @tup a ws us v d ha hv =>
    cases r
    have core : ∀ l, Vals (ws.map V.str ++ v :: us.map V.str) l → ∃ as, ReadsAll h l (ws.map PyData.str ++ d :: us.map PyData.str) as ∧ (d.hasDict = true → ¬ sysModules ∈ as) := fun l rl => by
      obtain ⟨l1, u, l2, rfl, r1, r2, r3⟩ := reads_cut ws us rl
      obtain ⟨as, q1, q2⟩ := hv.rds (P := P) (w := w) h ok kin u r2
      refine ⟨[] ++ (as ++ []), readsAll_append (reads_strs ws l1 r1) (.cons q1 (reads_strs us l2 r3)), ?_⟩
      simpa using q2
    have hd : (PyData.tuple (ws.map PyData.str ++ d :: us.map PyData.str)).hasDict = d.hasDict := by
      show PyData.hasDictAll (ws.map PyData.str ++ d :: us.map PyData.str) = _
      rw [hasDict_append, hasDict_strs]
      simp [PyData.hasDictAll, hasDict_strs]
    rcases ha with hs | ⟨o, its, n, hk, hc, hs, hz, rv⟩
    · obtain ⟨z, its, rv, o, e, c, n, dt⟩ := hs.ok ok
      obtain ⟨as, q1, q2⟩ := core its rv
      exact ⟨as, .tuple e c dt q1, by rw [hd]; exact q2⟩
    · obtain ⟨as, q1, q2⟩ := core its.toList rv
      exact ⟨as, .tuple (kin _ o hk) hc hs q1, by rw [hd]; exact q2⟩
end
/-! ### its kind -/
def kindOf : PyData → String
  | .none => "NoneType"
  | .bool _ => "bool"
  | .int _ => "int"
  | .str _ => "str"
  | .list _ => "list"
  | .tuple _ => "tuple"
  | .dict _ => "dict"
section
variable {K : PySem.W.Frag} {H : Hp} {v : V} {d : PyData}
theorem Dp.ty (z : Dp K H v d) : TyX K H v (.type (kindOf d)) := by
  cases z with
  | non => exact .base .non
  | bl b => exact .base (.bl b)
  | int i => exact .base (.int i)
  | str x => exact .base (.str x)
  | lst hs _ =>
    rcases hs with (hs | ⟨o, hs⟩) | ⟨o, its, n, hk, hc, _⟩
    · exact .base (.lst hs)
    · exact .base (.frz hs)
    · exact .kList hk hc
  | tup hs _ =>
    rcases hs with (hs | ⟨o, hs⟩) | ⟨o, its, n, hk, hc, _⟩
    · exact .base (.tup hs)
    · exact .fTuple hs
    · exact .kTuple hk hc
theorem Lf.ty (z : Lf K H v d) : TyX K H v (.type (kindOf d)) := by
  cases z with
  | dat z => exact Dp.ty z
  | dct0 z => exact .base (.dK z)
  | dct1 z => exact .base (.dK z)
theorem Th.ty (z : Th K H v d) : TyX K H v (.type (kindOf d)) := by
  cases z with
  | lf z => exact z.ty
  | tup hs _ =>
    rcases hs with (hs | ⟨o, hs⟩) | ⟨o, its, n, hk, hc, _⟩
    · exact .base (.tup hs)
    · exact .fTuple hs
    · exact .kTuple hk hc
def isStrD : PyData → Bool
  | .str _ => true
  | _ => false
def isTupD : PyData → Bool
  | .tuple _ => true
  | _ => false
def isIntD : PyData → Bool
  | .int _ => true
  | .bool _ => true
  | _ => false
def isBoolD : PyData → Bool
  | .bool _ => true
  | _ => false
theorem kit_str (d : PyData) : PySem.W.kitOne K (.type (kindOf d)) (.type "str") = some (isStrD d) := by
  cases d <;> (simp only [kindOf, isStrD, isTupD, isIntD, isBoolD]; exact kit_ty (by decide +kernel))
theorem kit_tuple (d : PyData) : PySem.W.kitOne K (.type (kindOf d)) (.type "tuple") = some (isTupD d) := by
  cases d <;> (simp only [kindOf, isStrD, isTupD, isIntD, isBoolD]; exact kit_ty (by decide +kernel))
theorem kit_int (d : PyData) : PySem.W.kitOne K (.type (kindOf d)) (.type "int") = some (isIntD d) := by
  cases d <;> (simp only [kindOf, isStrD, isTupD, isIntD, isBoolD]; exact kit_ty (by decide +kernel))
theorem kit_bool (d : PyData) : PySem.W.kitOne K (.type (kindOf d)) (.type "bool") = some (isBoolD d) := by
  cases d <;> (simp only [kindOf, isStrD, isTupD, isIntD, isBoolD]; exact kit_ty (by decide +kernel))
/-- the items of a tuple, each with its data -/
def Its (K : PySem.W.Frag) (H : Hp) (xs : List V) (ds : List PyData) : Prop := xs.length = ds.length ∧ ∀ (i : Nat) (x : V), xs[i]? = some x → ∃ d, ds[i]? = some d ∧ Lf K H x d
theorem its_of : ∀ {xs : List V} {ds : List PyData}, DpAll K H xs ds → Its K H xs ds
  | _, _, .nil => ⟨rfl, fun i x e => by simp at e⟩
  | _, _, .cons a b => by
    obtain ⟨h1, h2⟩ := its_of b
    refine ⟨by simp [h1], fun i x e => ?_⟩
    cases i with
    | zero =>
      simp at e
      subst e
      exact ⟨_, rfl, .dat a⟩
    | succ i =>
      obtain ⟨d, q1, q2⟩ := h2 i x (by simpa using e)
      exact ⟨d, by simpa using q1, q2⟩
theorem Th.its {ds : List PyData} (z : Th K H v (.tuple ds)) : ∃ a xs, v = .ref a ∧ SqT K H a xs ∧ Its K H xs ds := by
  cases z with
  | lf z =>
    cases z with
    | dat z =>
      cases z with
      | tup hs ha => exact ⟨_, _, rfl, hs, its_of ha⟩
  | @tup a ws us v d ha hv =>
    refine ⟨_, _, rfl, ha, by simp, fun i x e => ?_⟩
    by_cases h1 : i < ws.length
    · rw [List.getElem?_append_left (by simpa using h1), List.getElem?_map] at e
      cases g : ws[i]? with
      | none => rw [g] at e; cases e
      | some y =>
        rw [g] at e
        cases e
        exact ⟨.str y, by rw [List.getElem?_append_left (by simpa using h1), List.getElem?_map, g]; rfl, .dat (.str y)⟩
    · rw [List.getElem?_append_right (by simpa using h1), List.length_map] at e
      cases h2 : i - ws.length with
      | zero =>
        rw [h2] at e
        cases e
        exact ⟨d, by rw [List.getElem?_append_right (by simpa using h1), List.length_map, h2]; rfl, hv⟩
      | succ j =>
        rw [h2] at e
        have e : (us.map V.str)[j]? = some x := by simpa using e
        rw [List.getElem?_map] at e
        cases g : us[j]? with
        | none => rw [g] at e; cases e
        | some y =>
          rw [g] at e
          cases e
          refine ⟨.str y, ?_, .dat (.str y)⟩
          rw [List.getElem?_append_right (by simpa using h1), List.length_map, h2]
          show (us.map PyData.str)[j]? = some (PyData.str y)
          rw [List.getElem?_map, g]
          rfl
end
end Ld
/-! Words, letter by letter. -/
namespace Ld
open PySem L2 PyProof.Rows
def low (c : Nat) : Bool := decide (97 ≤ c) && decide (c ≤ 122)
def lows (z : Str) : Bool := z.cps.toList.all low
def wordS (z : Str) : Bool := decide (1 ≤ z.length) && decide (z.length ≤ 12) && lows z
theorem sign_facts : ∀ c : Fin 128, (Unicode.isAlpha c.val && !(Unicode.isUpper c.val || Unicode.isTitle c.val)) = low c.val ∧ (low c.val = true → Unicode.isLower c.val = true) := by decide +kernel
theorem sign_fact {c : Nat} (h : c < 128) : (Unicode.isAlpha c && !(Unicode.isUpper c || Unicode.isTitle c)) = low c ∧ (low c = true → Unicode.isLower c = true) := sign_facts ⟨c, h⟩
theorem low_lt {c : Nat} (h : low c = true) : c < 128 := by
  simp only [low, Bool.and_eq_true, decide_eq_true_eq] at h
  omega
theorem arr_all (z : Str) (p : Nat → Bool) : z.cps.all p = z.cps.toList.all p := by simp
theorem arr_any (z : Str) (p : Nat → Bool) : z.cps.any p = z.cps.toList.any p := by simp
theorem lows_eq {z : Str} (h : 1 ≤ z.length) : (Txt.isascii z && (Txt.isalpha z && Txt.islower z)) = lows z := by
  unfold Txt.isascii Txt.isalpha Txt.islower lows
  rw [arr_all, arr_all, arr_any, arr_any]
  have hl : (decide (z.length > 0)) = true := decide_eq_true h
  have hl2 : z.cps.toList.length = z.length := by simp [Str.length]
  rw [hl, Bool.true_and]
  generalize z.cps.toList = l at hl2
  rw [Bool.eq_iff_iff]
  simp only [Bool.and_eq_true, List.all_eq_true, List.any_eq_true, Bool.not_eq_true', decide_eq_true_eq]
  constructor
  · rintro ⟨h1, h2, _, h4⟩ c hc
    have f := (sign_fact (h1 c hc)).1
    rw [← f, Bool.and_eq_true]
    refine ⟨h2 c hc, ?_⟩
    have h5 := List.any_eq_false.mp h4 c hc
    simpa using h5
  · intro hh
    have f : ∀ c ∈ l, c < 128 ∧ Unicode.isAlpha c = true ∧ (Unicode.isUpper c || Unicode.isTitle c) = false ∧ Unicode.isLower c = true := fun c hc => by
      have h0 := hh c hc
      have h1 := low_lt h0
      obtain ⟨f1, f2⟩ := sign_fact h1
      rw [h0, Bool.and_eq_true] at f1
      exact ⟨h1, f1.1, by simpa using f1.2, f2 h0⟩
    refine ⟨fun c hc => (f c hc).1, fun c hc => (f c hc).2.1, ?_, List.any_eq_false.mpr fun c hc => by rw [(f c hc).2.2.1]; simp⟩
    cases l with
    | nil =>
      simp at hl2
      omega
    | cons c r => exact ⟨c, List.mem_cons_self, (f c List.mem_cons_self).2.2.2⟩
theorem one_lt (a b : Nat) : decide (([a] : List Nat) < [b]) = decide (a < b) := by
  by_cases h : a < b
  · rw [decide_eq_true h, decide_eq_true]
    exact List.Lex.rel h
  · rw [decide_eq_false h, decide_eq_false]
    intro z
    cases z with
    | rel q => exact h q
    | cons q => cases q
/-- what the data says -/
def numD (hi : Int) : PyData → Bool
  | .int i => decide (0 ≤ i) && decide (i ≤ hi)
  | _ => false
def wordD : PyData → Bool
  | .str z => wordS z
  | _ => false
def addrD : PyData → Bool
  | .tuple ds => ds.all wordD
  | _ => false
/-- a short text of plain signs -/
def Asc (z : Str) : Prop := z.length ≤ 100 ∧ ∀ c ∈ z.cps.toList, c < 128
def FitS (d : PyData) : Prop := ∀ z, d = .str z → Asc z
def Fits (d : PyData) : Prop := FitS d ∧ ∀ ds, d = .tuple ds → ds.length ≤ 10000 ∧ ∀ e ∈ ds, FitS e
theorem Asc.size {z : Str} (h : Asc z) : z.length ≤ sizeLine := Nat.le_trans h.1 (by decide)
theorem FitS.of {d : PyData} (h : ∀ z, d ≠ .str z) : FitS d := fun z e => absurd e (h z)
end Ld
/-! Short rules. -/
namespace Ld
open PySem L2 PyProof.Rows
section
variable {X : Cx}
theorem PE.conv {e : Expr} {t t' : TE} (h : PE X e t') (c : ∀ σ H Q, t σ H Q → t' σ H Q) : PE X e t := ⟨fun pins s σ H Q I z => h.run pins s σ H Q I (c σ H Q z)⟩
theorem PT.conv {e : Expr} {t t' : TT} (h : PT X e t') (c : ∀ σ H Q, t σ H Q → t' σ H Q) : PT X e t := ⟨fun pins s σ H Q I z => h.run pins s σ H Q I (c σ H Q z)⟩
theorem OpR.conv {f : Value → Value → Sem Value} {r r' : R2} (h : OpR X f r') (c : ∀ x y H Q, r x y H Q → r' x y H Q) : OpR X f r := fun pins s σ H x y v u Q I rx ry z => h pins s σ H x y v u Q I rx ry (c x y H Q z)
theorem CallR.conv {f : Value} {r r' : List V → Hp → VK → Prop} (h : CallR X f r') (c : ∀ xs H Q, r xs H Q → r' xs H Q) : CallR X f r := fun pins s σ H xs us Q I r z => h pins s σ H xs us Q I r (c xs H Q z)
/-- isinstance(a, T) -/
def rIsa (K : PySem.W.Frag) (T : String) (x : V) (H : Hp) (Q : VK) : Prop := ∃ t b, TyX K H x t ∧ PySem.W.kitOne K t (.type T) = some b ∧ Q (.bl b) H
theorem call_isa (T : String) : CallR X (.builtin "isinstance") (fun xs H Q => ∃ x, xs = [x, .ty T] ∧ rIsa X.K T x H Q) := CallR.conv call_isi fun xs H Q ⟨x, e, t, b, h1, h2, q⟩ => ⟨x, .ty T, t, .type T, b, e, .ty T, h1, h2, q⟩
/-- t[lo:hi], whatever object it is -/
def rSlW (K : PySem.W.Frag) : V → Option Int → Option Int → Hp → VK → Prop := fun x lo hi H Q => ∃ a xs, x = .ref a ∧ SqT K H a xs ∧ ∀ r H', Same H H' → SqT K H' r (cutV xs lo hi) → Q (.ref r) H'
theorem cut_whole {xs : List V} {lo hi : Option Int} (h : HT.sIx xs.length 0 lo = 0 ∧ HT.sIx xs.length xs.length hi = xs.length) : cutV xs lo hi = xs := by
  unfold cutV
  rw [h.1, h.2, List.drop_zero, Nat.sub_zero, List.take_length]
theorem sl_tupW : SlR X (rSlW X.K) := by
  intro pins s σ H x v vl vu lo hi sl Q I rx hs pl pu h
  obtain ⟨a, xs, rfl, hx, q⟩ := h
  exact sl_tupA pins s σ H _ v vl vu lo hi sl Q I rx hs pl pu ⟨a, xs, rfl, hx, fun hw => q a H (Same.refl H) (by rw [cut_whole hw]; exact hx), fun _ p hp => q p _ (Same.new hp) (.of upd_same)⟩
/-- t + u, whatever object it is -/
def rCatW (K : PySem.W.Frag) : R2 := fun x y H Q => ∃ a b xs ys, x = .ref a ∧ y = .ref b ∧ SqT K H a xs ∧ SqT K H b ys ∧ xs.length + ys.length ≤ sizeLine ∧ ∀ r H', Same H H' → SqT K H' r (xs ++ ys) → Q (.ref r) H'
theorem op_catW : OpR X (binaryOp .Add) (rCatW X.K) := OpR.conv op_catA fun x y H Q ⟨a, b, xs, ys, e1, e2, h1, h2, hz, q⟩ => by
  refine ⟨a, b, xs, ys, e1, e2, h1, h2, hz, fun e => ?_, fun _ e => ?_, fun _ _ p hp => q p _ (Same.new hp) (.of upd_same)⟩
  · subst e
    exact q b H (Same.refl H) h2
  · subst e
    exact q a H (Same.refl H) (by rw [List.append_nil]; exact h1)
/-- a tuple displayed, a list displayed: what is said of them -/
theorem bootN : bootBuiltins "isinstance" = some (.builtin "isinstance") := by decide +kernel
end
end Ld
namespace Ld
open PySem L2 PyProof.Rows
/-- f(..) of a def without default values that lets nothing out -/
structure Df (P : Program) (w : World) (K : PySem.W.Frag) (mg : Str → Option Value) (base : Heap) (k : Nat) (x : Str) (ps : List Str) (sp : Sp) : Prop where
  ex : ∃ f fd, mg x = some (.ref f) ∧ PySem.W.keepIn K (.ref f) = true ∧ Binds K fd ps [] ∧ FnOk P w K mg base CX0 k f fd ps sp
structure DfG (P : Program) (w : World) (K : PySem.W.Frag) (mg : Str → Option Value) (base : Heap) (k : Nat) (x : Str) (ps : List Str) (sp : Sp) : Prop where
  ex : ∃ f fd, mg x = some (.ref f) ∧ PySem.W.keepIn K (.ref f) = true ∧ Binds K fd ps [] ∧ FnG P w K mg base k f fd ps sp
def tDf (sp : Sp) (t : TA) : TE := fun σ H Q => t σ H fun vs H1 => sp vs H1 Q E0
section
variable {X : Cx} {k : Nat} {ps : List Str} {sp : Sp} {x : Str} {p pos : Pos} {e : Expr} {es : List Expr} {t : TA}
theorem pe_df {j : Nat} (D : Df X.prog X.w X.K X.mg X.base k x ps sp) (hr : Room j X.A) (ha : PA X (e :: es) t) (hj : k ≤ j := by decide) (hg : Gl X x := by rfl) (hdb : (x == ("__debug__" : Str)) = false := by decide) (he : starEach (e :: es) X.env = (false, eval e X.env) :: starEach es X.env := by rfl)
    (hpl : (backTo pos (starEach es X.env)).any (·.1) = false := by rfl) : PE X (.Call (.Name x p) (e :: es) [] pos) (tDf sp t) := by
  obtain ⟨f, fd, h1, h2, h3, h4⟩ := D.ex
  have z := pe_call (pos := pos) (p := p) h4 (hr.mono hj) hg h1 h2 h3 .nil pass0 ha hdb he hpl
  have e : tCall sp [] E0 t = tDf sp t := by
    funext σ H Q
    unfold tCall tDf
    simp only [List.append_nil]
  rw [e] at z
  exact z
theorem pe_dfG {j : Nat} (D : DfG X.prog X.w X.K X.mg X.base k x ps sp) (hG : X.A.guards = some []) (hr : Room j X.A) (ha : PA X (e :: es) t) (hj : k ≤ j := by decide) (hg : Gl X x := by rfl) (hdb : (x == ("__debug__" : Str)) = false := by decide)
    (he : starEach (e :: es) X.env = (false, eval e X.env) :: starEach es X.env := by rfl) (hpl : (backTo pos (starEach es X.env)).any (·.1) = false := by rfl) : PE X (.Call (.Name x p) (e :: es) [] pos) (tDf sp t) := by
  obtain ⟨f, fd, h1, h2, h3, h4⟩ := D.ex
  have z := pe_callG (pos := pos) (p := p) h4 hG (hr.mono hj) hg h1 h2 h3 ha hdb he hpl
  have e : tCall sp [] E0 t = tDf sp t := by
    funext σ H Q
    unfold tCall tDf
    simp only [List.append_nil]
  rw [e] at z
  exact z
end
section
variable {K : PySem.W.Frag} {H : Hp} {v : V}
theorem Th.int_v {i : Int} (h : Th K H v (.int i)) : v = .int i := by
  cases h with
  | lf h => cases h with
    | dat h => cases h; rfl
theorem Th.str_v {z : Str} (h : Th K H v (.str z)) : v = .str z := by
  cases h with
  | lf h => cases h with
    | dat h => cases h; rfl
end
end Ld
namespace Ld
open PySem L2 PyProof.Rows
/-! ### over the signs of a text -/
theorem lc_str {x : Str} {g : TG} {tt : TT} {te : TE} {vs : List Nat} {σ : L2.St} {H1 : Hp} {D : Addr} {Qd : Hp → Prop} (Pv : Nat → Hp → Prop) (h0 : Pv 0 (upd H1 D (.lst [])))
    (hs : ∀ i c H, x.cps[i]? = some c → Pv i H → g (.str ⟨#[c]⟩) (wipe σ vs) H fun σ2 H2 => wipe σ2 vs = wipe σ vs ∧ tt σ2 H2 fun b H3 =>
      if b = true then te σ2 H3 fun y H4 => ∃ acc, H4 D = some (.lst acc) ∧ acc.length < sizeLine ∧ Pv (i + 1) (upd H4 D (.lst (acc ++ [y]))) else Pv (i + 1) H3) (hd : ∀ H, Pv x.cps.size H → Qd H) :
    ∃ W : Nat → Nat → Hp → Prop, (∃ m, W 0 m (upd H1 D (.lst []))) ∧ ∀ i m H, W i m H →
      ((L2.Its x).stop i H ∧ Qd H) ∨ ((L2.Its x).go i H ∧ ∃ Nx : Hp → Prop, (∀ H', Nx H' → ∃ m', m' < m ∧ W (i + 1) m' H') ∧ ∀ v H', (L2.Its x).yld i H v H' → g v (wipe σ vs) H' fun σ2 H2 => wipe σ2 vs = wipe σ vs ∧ tt σ2 H2 fun b H3 =>
        if b = true then te σ2 H3 fun y H4 => ∃ acc, H4 D = some (.lst acc) ∧ acc.length < sizeLine ∧ Nx (upd H4 D (.lst (acc ++ [y]))) else Nx H3) := by
  refine ⟨fun i m H => m + i = x.cps.size ∧ Pv i H, ⟨x.cps.size, rfl, h0⟩, fun i m H ⟨e, p⟩ => ?_⟩
  by_cases hlt : i < x.cps.size
  · refine Or.inr ⟨hlt, Pv (i + 1), fun H' p' => ⟨m - 1, by omega, by omega, p'⟩, fun v H' y => ?_⟩
    obtain ⟨rfl, c, hc, rfl⟩ := y
    exact hs i c H' hc p
  · have e2 : i = x.cps.size := by omega
    subst e2
    exact Or.inl ⟨Nat.le_refl _, hd H p⟩
theorem for_str {x : Str} {g : TG} {tb : TS} {D : Ends} {σ : L2.St} {H : Hp} (Pv : Nat → L2.St → Hp → Prop) (h0 : Pv 0 σ H)
    (hs : ∀ i c σ H, x.cps[i]? = some c → Pv i σ H → g (.str ⟨#[c]⟩) σ H fun σ2 H2 => tb { D with nx := Pv (i + 1), ct := Pv (i + 1), bk := D.nx } σ2 H2) (hd : ∀ σ H, Pv x.cps.size σ H → D.nx σ H) :
    ∃ W : Nat → Nat → L2.St → Hp → Prop, (∃ m, W 0 m σ H) ∧ ∀ i m σ H, W i m σ H → ((L2.Its x).stop i H ∧ D.nx σ H) ∨ ((L2.Its x).go i H ∧ ∃ N : L2.St → Hp → Prop, (∀ σ' H', N σ' H' → ∃ m', m' < m ∧ W (i + 1) m' σ' H') ∧
      ∀ v H', (L2.Its x).yld i H v H' → g v σ H' fun σ2 H2 => tb { D with nx := N, ct := N, bk := D.nx } σ2 H2) := by
  refine ⟨fun i m σ H => m + i = x.cps.size ∧ Pv i σ H, ⟨x.cps.size, rfl, h0⟩, fun i m σ H ⟨e, p⟩ => ?_⟩
  by_cases hlt : i < x.cps.size
  · refine Or.inr ⟨hlt, Pv (i + 1), fun σ' H' p' => ⟨m - 1, by omega, by omega, p'⟩, fun v H' y => ?_⟩
    obtain ⟨rfl, c, hc, rfl⟩ := y
    exact hs i c σ H' hc p
  · have e2 : i = x.cps.size := by omega
    subst e2
    exact Or.inl ⟨Nat.le_refl _, hd σ H p⟩
/-! ### a list compared with the empty one -/
theorem eqv_nil_tuple (ds : List PyData) : PyData.eqv (.list ds) (.list []) = ds.isEmpty := by
  cases ds <;> rfl
end Ld
namespace Ld
open PySem L2 PyProof.Rows
/-- a list against an empty one, whatever is in it -/
def rEq0 : R2 := fun x y H Q => ∃ a b xs, x = .ref a ∧ y = .ref b ∧ H a = some (.lst xs) ∧ H b = some (.lst []) ∧ Q (.bl xs.isEmpty) H
theorem op_eq0 {X : Cx} (hu : X.A.units + 64 < cLine) : OpR X (compareOp .Eq) rEq0 := by
  intro pins s σ H x y v u Q I rx ry h
  obtain ⟨a, b, xs, rfl, rfl, ha, hb, q⟩ := h
  cases xs with
  | nil => exact op_eqD hu pins s σ H _ _ v u Q I rx ry ⟨.list [], .list [], .lst (.of ha) .nil, .lst (.of hb) .nil, by decide, by decide, q⟩
  | cons y ys =>
    cases rx
    cases ry
    obtain ⟨_, its, n, r, e1⟩ := (show ObjOk X.prog X.w H s.heap a (.lst (y :: ys)) from I.hok a _ ha)
    obtain ⟨_, its2, n2, r2, e2⟩ := (show ObjOk X.prog X.w H s.heap b (.lst []) from I.hok b _ hb)
    cases r2
    refine SeqAt.eq_list_lengthsAt (items := its.toArray) (items2 := ([] : List Value).toArray) ⟨_, e1, rfl, n, rfl⟩ ⟨_, e2, rfl, n2, rfl⟩ ?_ (by omega) ⟨.bl false, H, I, rfl, q⟩
    have := r.length
    simp at this
    simp
    cases its with
    | nil => simp at this
    | cons a b => simp
end Ld
/-! The well's two numbers, and numbers of a script squared. -/
namespace Ld
open PySem L2 PyProof.Rows
def kd : Key := Sum.inr (Str.ofString "digits")
def km : Key := Sum.inr (Str.ofString "mixed")
theorem keys_ne : ¬ (kd = km) := by decide +kernel
theorem keys_ne' : ¬ (km = kd) := fun e => keys_ne e.symm
theorem wellKv_eq (d m : Int) : wellKv d m = [(kd, V.int d), (km, V.int m)] := rfl
theorem well_dig (d m : Int) : valV (wellKv d m) kd = some (.int d) := by
  rw [wellKv_eq]
  exact valV_pos rfl
theorem well_mix (d m : Int) : valV (wellKv d m) km = some (.int m) := by
  rw [wellKv_eq]
  rw [valV_neg keys_ne]
  exact valV_pos rfl
theorem put_dig (d m x : Int) : putK (wellKv d m) kd (.int x) = wellKv x m := by
  unfold putK
  rw [valV_any, well_dig]
  show (if true = true then _ else _) = _
  rw [if_pos rfl]
  rw [wellKv_eq, wellKv_eq]
  show [if kd = kd then (kd, V.int x) else _, if km = kd then (km, V.int x) else (km, V.int m)] = _
  rw [if_pos rfl, if_neg keys_ne']
theorem put_mix (d m x : Int) : putK (wellKv d m) km (.int x) = wellKv d x := by
  unfold putK
  rw [valV_any, well_mix]
  show (if true = true then _ else _) = _
  rw [if_pos rfl]
  rw [wellKv_eq, wellKv_eq]
  show [if kd = km then (kd, V.int x) else (kd, V.int d), if km = km then (km, V.int x) else _] = _
  rw [if_neg keys_ne, if_pos rfl]
theorem merge_well (d m : Int) : mergeK [] [(kd, V.int d), (km, V.int m)] = wellKv d m := by
  show putK (putK [] kd (V.int d)) km (V.int m) = _
  rw [putK_new (kvs := []) _ rfl, List.nil_append, putK_new _ (by rw [valV_neg keys_ne]; rfl)]
  rfl
theorem sq_wide {m e : Int} {n : Nat} (h : e.natAbs < 2 ^ n) (hm : m.natAbs < 2 ^ 60) (hn : 60 ≤ n) : (m + e * e + 59).natAbs < 2 ^ (2 * n + 2) := by
  have h1 : (e * e).natAbs < 2 ^ (2 * n) := by
    rw [Int.natAbs_mul, Nat.two_mul, Nat.pow_add]
    exact Nat.mul_lt_mul'' h h
  have h2 : 2 ^ 60 ≤ 2 ^ (2 * n) := Nat.pow_le_pow_right (by decide) (by omega)
  have h3 : (2 : Nat) ^ (2 * n + 2) = 4 * 2 ^ (2 * n) := by
    rw [Nat.pow_add]
    omega
  rw [h3]
  generalize (2 : Nat) ^ (2 * n) = z at h1 h2
  generalize e * e = s at h1
  have h4 : (2 : Nat) ^ 60 = 1152921504606846976 := by decide
  omega
theorem mul_small {m c : Int} (h0 : 0 ≤ m) (h1 : m < 2 ^ 40) (c0 : 0 ≤ c) (c1 : c < 2 ^ 17) : (m * c).natAbs < 2 ^ 60 := by
  rw [Int.natAbs_mul]
  have a : m.natAbs < 2 ^ 40 := by omega
  have b : c.natAbs < 2 ^ 17 := by omega
  have := Nat.mul_lt_mul'' a b
  exact Nat.lt_of_lt_of_le this (by decide)
theorem bits_small {m : Int} (h0 : 0 ≤ m) (h1 : m < 2 ^ 40) : Builtin.Int.intBits m ≤ 40 := bits_of (by omega)
theorem list_get {ns : List Int} {i : Nat} {x : V} (h : (ns.map V.int)[i]? = some x) : ∃ z, ns[i]? = some z ∧ x = .int z := by
  rw [List.getElem?_map] at h
  cases e : ns[i]? with
  | none => rw [e] at h; cases h
  | some z =>
    rw [e] at h
    exact ⟨z, rfl, (Option.some.inj h).symm⟩
end Ld
/-! Small things: what is drawn is short. -/
namespace Ld
open PySem L2 PyProof.Rows
def ascB (z : Str) : Bool := decide (z.length ≤ 100) && z.cps.toList.all (fun c => decide (c < 128))
theorem asc_of {z : Str} (h : ascB z = true) : Asc z := by
  simp only [ascB, Bool.and_eq_true, decide_eq_true_eq, List.all_eq_true] at h
  exact h
/-- short enough to stand in something -/
structure Part (d : PyData) : Prop where
  fit : FitS d
  sh : d.showable = true
  dp : d.depth ≤ 20
  len : d.shown.length ≤ 2000
def partB (d : PyData) : Bool := (match d with | .str z => ascB z | _ => true) && d.showable && decide (d.depth ≤ 20) && decide (d.shown.length ≤ 2000)
theorem part_of {d : PyData} (h : partB d = true) : Part d := by
  simp only [partB, Bool.and_eq_true, decide_eq_true_eq] at h
  obtain ⟨⟨⟨h1, h2⟩, h3⟩, h4⟩ := h
  refine ⟨fun z e => ?_, h2, h3, h4⟩
  subst e
  exact asc_of h1
theorem part_str {z : Str} (h : Asc z) : Part (.str z) := by
  refine ⟨fun y e => by cases e; exact h, rfl, by show 0 ≤ 20; decide, ?_⟩
  have := PySem.StrLaws.reprText_len z fun c hc => Nat.lt_of_lt_of_le (h.2 c hc) (by decide)
  show (reprText z).length ≤ 2000
  have := h.1
  omega
theorem Part.small {d : PyData} (h : Part d) : Small d := ⟨h.sh, Nat.le_trans h.dp (by decide), Nat.le_trans h.len (by decide)⟩
theorem shows_all : ∀ {ds : List PyData}, (∀ d ∈ ds, Part d) → PyData.showableAll ds = true
  | [], _ => rfl
  | d :: ds, h => by
    simp only [PyData.showableAll, (h d List.mem_cons_self).sh, shows_all fun x hx => h x (List.mem_cons_of_mem _ hx), Bool.and_self]
theorem depth_all : ∀ {ds : List PyData}, (∀ d ∈ ds, Part d) → PyData.depthAll ds ≤ 20
  | [], _ => by show 0 ≤ 20; decide
  | d :: ds, h => by
    have h1 := (h d List.mem_cons_self).dp
    have h2 := depth_all fun x hx => h x (List.mem_cons_of_mem _ hx)
    simp only [PyData.depthAll]
    omega
theorem len_all : ∀ {ds : List PyData}, (∀ d ∈ ds, Part d) → ((PyData.shownAll ds).map (·.length)).sum ≤ 2000 * ds.length ∧ (PyData.shownAll ds).length = ds.length
  | [], _ => ⟨Nat.le_refl _, rfl⟩
  | d :: ds, h => by
    have h1 := (h d List.mem_cons_self).len
    obtain ⟨h2, h3⟩ := len_all fun x hx => h x (List.mem_cons_of_mem _ hx)
    simp only [PyData.shownAll, List.map_cons, List.sum_cons, List.length_cons]
    omega
theorem small_list {ds : List PyData} (h : ∀ d ∈ ds, Part d) (hn : ds.length ≤ 1000) : Small (.list ds) := by
  obtain ⟨h2, h3⟩ := len_all h
  refine ⟨by simpa only [PyData.showable] using shows_all h, ?_, ?_⟩
  · have := depth_all h
    simp only [PyData.depth]
    omega
  · have := listText_len_le (PyData.shownAll ds)
    simp only [PyData.shown]
    rw [sizeLine_eq]
    omega
theorem small_tuple {ds : List PyData} (h : ∀ d ∈ ds, Part d) (hn : ds.length ≤ 1000) : Small (.tuple ds) := by
  obtain ⟨h2, h3⟩ := len_all h
  refine ⟨by simpa only [PyData.showable] using shows_all h, ?_, ?_⟩
  · have := depth_all h
    simp only [PyData.depth]
    omega
  · have := tupleText_len_le (PyData.shownAll ds)
    simp only [PyData.shown]
    rw [sizeLine_eq]
    omega
theorem fits_list {ds : List PyData} : Fits (.list ds) := ⟨(fun z e => by cases e), (fun ds e => by cases e)⟩
theorem fits_tuple {ds : List PyData} (h : ∀ d ∈ ds, Part d) (hn : ds.length ≤ 1000) : Fits (.tuple ds) := ⟨(fun z e => by cases e), (fun es e => by cases e; exact ⟨Nat.le_trans hn (by decide), fun d hd => (h d hd).fit⟩)⟩
theorem Part.fits {d : PyData} (h : Part d) (n : ∀ ds, d ≠ .tuple ds) : Fits d := ⟨h.fit, fun ds e => absurd e (n ds)⟩
theorem parts_strs {ws : List Str} (h : ∀ w ∈ ws, Asc w) : ∀ d ∈ ws.map PyData.str, Part d := fun d hd => by
  obtain ⟨w, hw, rfl⟩ := List.mem_map.mp hd
  exact part_str (h w hw)
/-- a drawn thing: it stands, it is short -/
def Good (K : PySem.W.Frag) (H : Hp) (v : V) : Prop := ∃ d, Th K H v d ∧ Fits d ∧ Small d
theorem Good.sb {K : PySem.W.Frag} {H H' : Hp} {wa : Addr} {v : V} (W : Well H wa) (s : Sb wa H H') (h : Good K H v) : Good K H' v := by
  obtain ⟨d, h1, h2⟩ := h
  exact ⟨d, h1.sb W s, h2⟩
theorem Good.same {K : PySem.W.Frag} {H H' : Hp} {v : V} (s : Same H H') (h : Good K H v) : Good K H' v := by
  obtain ⟨d, h1, h2⟩ := h
  exact ⟨d, h1.same s, h2⟩
/-- any of the menu -/
def Any (K : PySem.W.Frag) (H : Hp) (v : V) : Prop := ∃ d, Lf K H v d ∧ Part d ∧ Fits d
theorem Any.sb {K : PySem.W.Frag} {H H' : Hp} {wa : Addr} {v : V} (W : Well H wa) (s : Sb wa H H') (h : Any K H v) : Any K H' v := by
  obtain ⟨d, h1, h2⟩ := h
  exact ⟨d, h1.sb W s, h2⟩
theorem Any.same {K : PySem.W.Frag} {H H' : Hp} {v : V} (s : Same H H') (h : Any K H v) : Any K H' v := by
  obtain ⟨d, h1, h2⟩ := h
  exact ⟨d, h1.same s, h2⟩
theorem Any.good {K : PySem.W.Frag} {H : Hp} {v : V} (h : Any K H v) : Good K H v := by
  obtain ⟨d, h1, h2, h3⟩ := h
  exact ⟨d, .lf h1, h3, h2.small⟩
theorem any_int {K : PySem.W.Frag} {H : Hp} (i : Int) (h : partB (.int i) = true) : Any K H (.int i) := ⟨_, .dat (.int i), part_of h, (part_of h).fits (fun _ e => by cases e)⟩
theorem any_str {K : PySem.W.Frag} {H : Hp} (z : Str) (h : ascB z = true) : Any K H (.str z) := ⟨_, .dat (.str z), part_str (asc_of h), (part_str (asc_of h)).fits (fun _ e => by cases e)⟩
theorem any_non {K : PySem.W.Frag} {H : Hp} : Any K H .non := ⟨_, .dat .non, part_of (by decide +kernel), (part_of (by decide +kernel)).fits (fun _ e => by cases e)⟩
theorem any_bl {K : PySem.W.Frag} {H : Hp} (b : Bool) : Any K H (.bl b) := ⟨_, .dat (.bl b), part_of (by cases b <;> decide +kernel), (part_of (d := .bool b) (by cases b <;> decide +kernel)).fits (fun _ e => by cases e)⟩
theorem any_tup {K : PySem.W.Frag} {H : Hp} {a : Addr} {xs : List V} {ds : List PyData} (h : SqT K H a xs) (hd : DpAll K H xs ds) (p : partB (.tuple ds) = true) (q : ds.all partB = true) (hn : ds.length ≤ 1000) : Any K H (.ref a) :=
  ⟨_, .dat (.tup h hd), part_of p, fits_tuple (fun d h => part_of (List.all_eq_true.mp q d h)) hn⟩
theorem any_lst {K : PySem.W.Frag} {H : Hp} {a : Addr} {xs : List V} {ds : List PyData} (h : SqL K H a xs) (hd : DpAll K H xs ds) (p : partB (.list ds) = true) : Any K H (.ref a) := ⟨_, .dat (.lst h hd), part_of p, fits_list⟩
theorem any_dct0 {K : PySem.W.Frag} {H : Hp} {a : Addr} (h : H a = some (.dK [])) : Any K H (.ref a) := ⟨_, .dct0 h, part_of (by decide +kernel), (part_of (d := .dict []) (by decide +kernel)).fits (fun _ e => by cases e)⟩
theorem any_dct1 {K : PySem.W.Frag} {H : Hp} {a : Addr} {x y : Str} (h : H a = some (.dK [(Sum.inr x, .str y)])) (p : partB (.dict [(.str x, .str y)]) = true) : Any K H (.ref a) := ⟨_, .dct1 h, part_of p, (part_of p).fits (fun _ e => by cases e)⟩
end Ld
/-! Data of any depth, with dicts by texts. -/
namespace Ld
open PySem L2 PyProof.Rows
def noWell (kvs : List (Key × V)) : Prop := kvs.map (·.1) ≠ [(Sum.inr (Str.ofString "digits") : Key), Sum.inr (Str.ofString "mixed")]
mutual
inductive Dd (K : PySem.W.Frag) (H : Hp) : V → PyData → Prop
  | non : Dd K H .non .none
  | bl (b : Bool) : Dd K H (.bl b) (.bool b)
  | int (i : Int) : Dd K H (.int i) (.int i)
  | str (x : Str) : Dd K H (.str x) (.str x)
  | lst {a : Addr} {xs : List V} {ds : List PyData} : SqL K H a xs → a ≠ sysModules → DdAll K H xs ds → Dd K H (.ref a) (.list ds)
  | tup {a : Addr} {xs : List V} {ds : List PyData} : SqT K H a xs → DdAll K H xs ds → Dd K H (.ref a) (.tuple ds)
  | dct {a : Addr} {kvs : List (Key × V)} {ds : List (PyData × PyData)} : H a = some (.dK kvs) → noWell kvs → DdKv K H kvs ds → Dd K H (.ref a) (.dict ds)
inductive DdAll (K : PySem.W.Frag) (H : Hp) : List V → List PyData → Prop
  | nil : DdAll K H [] []
  | cons {v : V} {d : PyData} {vs : List V} {ds : List PyData} : Dd K H v d → DdAll K H vs ds → DdAll K H (v :: vs) (d :: ds)
inductive DdKv (K : PySem.W.Frag) (H : Hp) : List (Key × V) → List (PyData × PyData) → Prop
  | nil : DdKv K H [] []
  | cons {x : Str} {v : V} {d : PyData} {vs : List (Key × V)} {ds : List (PyData × PyData)} : Dd K H v d → DdKv K H vs ds → DdKv K H ((Sum.inr x, v) :: vs) ((.str x, d) :: ds)
end
section
variable {K : PySem.W.Frag} {H H' : Hp}
mutual
theorem dd_mono (hL : ∀ a xs, SqL K H a xs → SqL K H' a xs) (hT : ∀ a xs, SqT K H a xs → SqT K H' a xs) (hD : ∀ a kvs, H a = some (.dK kvs) → noWell kvs → H' a = some (.dK kvs)) : ∀ {v : V} {d : PyData}, Dd K H v d → Dd K H' v d
  | _, _, .non => .non
  | _, _, .bl b => .bl b
  | _, _, .int i => .int i
  | _, _, .str x => .str x
  | _, _, .lst a n b => .lst (hL _ _ a) n (ddAll_mono hL hT hD b)
  | _, _, .tup a b => .tup (hT _ _ a) (ddAll_mono hL hT hD b)
  | _, _, .dct a n b => .dct (hD _ _ a n) n (ddKv_mono hL hT hD b)
theorem ddAll_mono (hL : ∀ a xs, SqL K H a xs → SqL K H' a xs) (hT : ∀ a xs, SqT K H a xs → SqT K H' a xs) (hD : ∀ a kvs, H a = some (.dK kvs) → noWell kvs → H' a = some (.dK kvs)) : ∀ {v : List V} {d : List PyData}, DdAll K H v d → DdAll K H' v d
  | _, _, .nil => .nil
  | _, _, .cons a b => .cons (dd_mono hL hT hD a) (ddAll_mono hL hT hD b)
theorem ddKv_mono (hL : ∀ a xs, SqL K H a xs → SqL K H' a xs) (hT : ∀ a xs, SqT K H a xs → SqT K H' a xs) (hD : ∀ a kvs, H a = some (.dK kvs) → noWell kvs → H' a = some (.dK kvs)) : ∀ {v : List (Key × V)} {d : List (PyData × PyData)}, DdKv K H v d → DdKv K H' v d
  | _, _, .nil => .nil
  | _, _, .cons a b => .cons (dd_mono hL hT hD a) (ddKv_mono hL hT hD b)
end
theorem Dd.same {v : V} {d : PyData} (h : Dd K H v d) (s : Same H H') : Dd K H' v d := dd_mono (fun _ _ q => s.seq q) (fun _ _ q => same_T s q) (fun _ _ q _ => s _ _ q) h
theorem Well.neD {wa b : Addr} {kvs : List (Key × V)} (W : Well H wa) (e : H b = some (.dK kvs)) (n : noWell kvs) : b ≠ wa := by
  obtain ⟨d, m, h, _⟩ := W
  intro z
  subst z
  rw [h] at e
  cases e
  exact n rfl
theorem Dd.sb {v : V} {d : PyData} {wa : Addr} (h : Dd K H v d) (W : Well H wa) (s : Sb wa H H') : Dd K H' v d := dd_mono (fun _ _ q => seqL W s q) (fun _ _ q => seqT W s q) (fun _ _ q n => s _ _ (W.neD q n) q) h
theorem Dd.ty {v : V} {d : PyData} (z : Dd K H v d) : TyX K H v (.type (kindOf d)) := by
  cases z with
  | non => exact .base .non
  | bl b => exact .base (.bl b)
  | int i => exact .base (.int i)
  | str x => exact .base (.str x)
  | lst hs _ _ =>
    rcases hs with (hs | ⟨o, hs⟩) | ⟨o, its, n, hk, hc, _⟩
    · exact .base (.lst hs)
    · exact .base (.frz hs)
    · exact .kList hk hc
  | tup hs _ =>
    rcases hs with (hs | ⟨o, hs⟩) | ⟨o, its, n, hk, hc, _⟩
    · exact .base (.tup hs)
    · exact .fTuple hs
    · exact .kTuple hk hc
  | dct z _ _ => exact .base (.dK z)
theorem DdAll.append : ∀ {xs ys : List V} {ds es : List PyData}, DdAll K H xs ds → DdAll K H ys es → DdAll K H (xs ++ ys) (ds ++ es)
  | _, _, _, _, .nil, h => h
  | _, _, _, _, .cons a b, h => .cons a (b.append h)
theorem DdAll.get : ∀ {xs : List V} {ds : List PyData}, DdAll K H xs ds → ∀ (i : Nat) (x : V), xs[i]? = some x → ∃ d, ds[i]? = some d ∧ Dd K H x d
  | _, _, .nil, i, x, e => by simp at e
  | _, _, .cons a b, 0, x, e => by
    simp at e
    subst e
    exact ⟨_, rfl, a⟩
  | _, _, .cons a b, i + 1, x, e => by
    obtain ⟨d, q1, q2⟩ := b.get i x (by simpa using e)
    exact ⟨d, by simpa using q1, q2⟩
theorem DdAll.len : ∀ {xs : List V} {ds : List PyData}, DdAll K H xs ds → xs.length = ds.length
  | _, _, .nil => rfl
  | _, _, .cons a b => by simp [b.len]
end
/-! ### repr of it -/
section
variable {K : PySem.W.Frag} {P : Program} {w : World} {H : Hp} {h : Heap}
def NoSys (as : List Addr) : Prop := ¬ sysModules ∈ as
mutual
theorem dd_reads (ok : HOk P w H h) (kin : K.In h) : ∀ {v : V} {d : PyData} {u : Value}, Dd K H v d → RelV v u → ∃ as, Reads h u d as ∧ NoSys as
  | _, _, _, .non, r => by cases r; exact ⟨_, .none, fun z => nomatch z⟩
  | _, _, _, .bl b, r => by cases r; exact ⟨_, .bool b, fun z => nomatch z⟩
  | _, _, _, .int i, r => by obtain ⟨t, rfl⟩ := r; exact ⟨_, .int i t, fun z => nomatch z⟩
  | _, _, _, .str x, r => by obtain ⟨t, rfl⟩ := r; exact ⟨_, .str x t, fun z => nomatch z⟩
  | _, _, _, .lst hs ns ha, r => by
    cases r
    rcases hs with hs | ⟨o, its, n, hk, hc, hd, hs, hz, rv⟩
    · obtain ⟨z, its, n, rv, e⟩ := hs.ok ok
      obtain ⟨as, hr, hn⟩ := ddAll_reads ok kin ha rv
      refine ⟨_, .list e rfl rfl hr, fun q => ?_⟩
      rcases List.mem_cons.mp q with q | q
      · exact ns q.symm
      · exact hn q
    · obtain ⟨as, hr, hn⟩ := ddAll_reads ok kin ha rv
      refine ⟨_, .list (kin _ o hk) hc hs hr, fun q => ?_⟩
      rcases List.mem_cons.mp q with q | q
      · exact ns q.symm
      · exact hn q
  | _, _, _, .tup hs ha, r => by
    cases r
    rcases hs with hs | ⟨o, its, n, hk, hc, hs, hz, rv⟩
    · obtain ⟨z, its, rv, o, e, c, n, dt⟩ := hs.ok ok
      obtain ⟨as, hr, hn⟩ := ddAll_reads ok kin ha rv
      exact ⟨_, .tuple e c dt hr, hn⟩
    · obtain ⟨as, hr, hn⟩ := ddAll_reads ok kin ha rv
      exact ⟨_, .tuple (kin _ o hk) hc hs hr, hn⟩
  | _, _, _, .dct z n kv, r => by
    cases r
    obtain ⟨_, hm, vs, kvr, o, es, ep, e1, e2, e3, _, e4, _⟩ := dk_of ok z
    obtain ⟨as, bs, h1, h2, n1, n2⟩ := ddKv_reads ok kin kv kvr e4
    refine ⟨_, .dict (as := as) (bs := bs) e1 e2.1 e3 h1 h2, fun hin => ?_⟩
    rcases List.mem_append.mp hin with q | q
    · rcases List.mem_cons.mp q with q | q
      · rw [← q] at hm
        exact absurd hm (by decide)
      · exact n1 q
    · exact n2 q
theorem ddAll_reads (ok : HOk P w H h) (kin : K.In h) : ∀ {vs : List V} {ds : List PyData} {us : List Value}, DdAll K H vs ds → Vals vs us → ∃ as, ReadsAll h us ds as ∧ NoSys as
  | _, _, _, .nil, r => by cases r; exact ⟨_, .nil, fun z => nomatch z⟩
  | _, _, _, .cons a b, r => by
    cases r with
    | cons r1 r2 =>
      obtain ⟨as, q1, n1⟩ := dd_reads ok kin a r1
      obtain ⟨bs, q2, n2⟩ := ddAll_reads ok kin b r2
      exact ⟨_, .cons q1 q2, fun z => (List.mem_append.mp z).elim n1 n2⟩
theorem ddKv_reads (ok : HOk P w H h) (kin : K.In h) : ∀ {kvs : List (Key × V)} {ds : List (PyData × PyData)} {vs : List (Key × Value)} {es : List DictEntry}, DdKv K H kvs ds → KV kvs vs → Pairs (mixKind P w) es vs →
    ∃ as bs, ReadsAll h (es.map (·.key)) (ds.map (·.1)) as ∧ ReadsAll h (es.map (·.val)) (ds.map (·.2)) bs ∧ NoSys as ∧ NoSys bs
  | _, _, _, es, .nil, kv, e4 => by
    cases kv
    cases es with
    | nil => exact ⟨_, _, .nil, .nil, (fun z => nomatch z), fun z => nomatch z⟩
    | cons x y => cases e4
  | _, _, _, es, .cons (x := x) a b, kv, e4 => by
    cases kv with
    | @cons _ kv1 _ _ q kv2 =>
      obtain ⟨q1, q2⟩ := q
      obtain ⟨k1, v1⟩ := kv1
      cases q1
      cases es with
      | nil => cases e4
      | cons x1 x2 =>
        cases e4 with
        | cons g1 g2 g3 =>
          have g4 : ∃ t', x1.key = .str x t' := by
            rcases keyIs_shape (show keyIs (.inr x) x1.key = true from g1) with ⟨i, t', z1, _⟩ | ⟨y', t', z1, z2⟩
            · cases z1
            · cases z1
              exact ⟨t', z2⟩
          obtain ⟨t', g4⟩ := g4
          obtain ⟨as, r1, n1⟩ := dd_reads ok kin a q2
          obtain ⟨bs, cs, r2, r3, n2, n3⟩ := ddKv_reads ok kin b kv2 g3
          refine ⟨[] ++ bs, as ++ cs, ?_, ?_, n2, fun z => (List.mem_append.mp z).elim n1 n3⟩
          · show ReadsAll h (x1.key :: x2.map (·.key)) _ _
            rw [g4]
            exact .cons (.str x t') r2
          · show ReadsAll h (x1.val :: x2.map (·.val)) _ _
            rw [g2]
            exact .cons r1 r3
end
theorem Dd.rds {v : V} {d : PyData} (z : Dd K H v d) : Rds K P w H v d := fun h ok kin u r => by
  obtain ⟨as, q, n⟩ := dd_reads ok kin z r
  exact ⟨as, q, fun _ => n⟩
end
end Ld
/-! Own exceptions as values: made by place or by name, their fields, isinstance. -/
namespace Ld
namespace EX
open PySem PySem.HandSPX PySem.Builtin PySem.Builtin.ObjectAttr
section
variable {M : Model} {prog : Program} {w : World} {A : Around} {E : Value → Shared → Prop} {R : Result → Shared → Prop} {h : Heap} {g : Array GenState} {d : Drawn} {t : Nat} {os : OsState}
variable {nm q : Str} {C N : Addr} {bs bm bmB : List Value} {hdct : Bool} {sn : List Str} {sub : List Value} {ab : Bool} {col : Option Bool} {dd : Option Addr} {k0 k1 k2 k3 k5 : Option Value} {B newId initId : String}
theorem check_newK (F : ExcBaseFacts B newId initId bmB) (hT : ∀ X : String, bm.contains (.type X) = bmB.contains (.type X)) {rest : List Value} {ks : List (Str × Value)} {Q : Unit → Shared → Prop}
    (hC : h.get? C = some (excClassObj nm q C N bs bm hdct sn sub ab col dd k0 k1 k2 k3 k5 newId)) (hq : Q () ⟨h, g, d, t, os⟩) : wpAny M A (checkBuiltinCall newId ⟨.ref C :: rest, ks⟩) Q E ⟨h, g, d, t, os⟩ := by
  have hcont : (Value.ref C :: bm).contains (.type B) = true := by rw [List.contains_cons, hT, F.hasB, Bool.or_true]
  have hstar := F.noStar
  simp only [checkBuiltinCall, F.newKind, F.newSplit, F.newRow]
  repeat (first | refine wpAny_loadPart_at hC ?_ | (refine wpAny_isSubtype_exc hC ?_; rw [hcont]) | refine wpAny_staticBase_exc hC ?_ | refine wpAny_madeBy_exc hC ?_ | simp only [bne_self_eq_false, Bool.false_eq_true, if_false] | wp_step)
  exact hq
theorem new_ownK (F : ExcBaseFacts B newId initId bmB) (hT : ∀ X : String, bm.contains (.type X) = bmB.contains (.type X)) {rest : List Value} {ks : List (Str × Value)}
    (hC : h.get? C = some (excClassObj nm q C N bs bm hdct sn sub ab col dd k0 k1 k2 k3 k5 newId))
    (hq : R (.ok (.ret (.ref (h.objs.size + 1)))) ⟨(h.push { cls := .type "tuple", data := .seq rest.toArray }).push
      { cls := .ref C, data := .fields #[.ref h.objs.size, .none, .none, .none, .bool false, .none] }, g, d, t, os⟩) (hrest : rest.length ≤ sizeLine) :
    codeAny (model prog w) A (.builtin newId ⟨.ref C :: rest, ks⟩) R ⟨h, g, d, t, os⟩ := by
  have hends := F.ends
  have hcB : (Value.ref C :: bm).contains (.type B) = true := by rw [List.contains_cons, hT, F.hasB, Bool.or_true]
  have hcA : (Value.ref C :: bm).contains (.type "AttributeError") = false := by rw [List.contains_cons, hT, F.noAttr]; rfl
  have hcN : (Value.ref C :: bm).contains (.type "NameError") = false := by rw [List.contains_cons, hT, F.noName]; rfl
  refine codeAny_builtinAt F.entry ?_
  unfold Builtin.«BaseException.__new__»
  refine wpAt_bind ?_
  show wpAt _ _ _ (stack >>= _) _ _ _
  refine wpAt_bind (wpAt_stack fun p below => wpAt_of_wpAny ?_)
  wp_walk
  refine wpAt_of_wpAny ?_
  rw [F.owner]
  repeat (first | with_reducible refine wpAny_madeHere_exc F.canon hC ?_ | with_reducible refine wpAny_loadPart_at hC ?_ | (with_reducible refine wpAny_isSubtype_exc hC ?_; first | rw [hcB] | rw [hcA] | rw [hcN]) | wp_step)
  show R _ _
  rw [Heap.size_push]
  exact hq
theorem type_callK (F : ExcBaseFacts B newId initId bmB) (hT : ∀ X : String, bm.contains (.type X) = bmB.contains (.type X)) {rest : List Value} {ks : List (Str × Value)} {fI : Addr} {Q : Fin → Shared → Prop}
    (hC : h.get? C = some (excClassObj nm q C N bs bm hdct sn sub ab col dd k0 k1 k2 k3 k5 newId))
    (hi : W.Looks (model prog w) h (typeLookup (.ref C) "__init__") (some (.ref fI))) (hb : ∀ self, W.Looks (model prog w) h (bindSpecial (.ref fI) self) (.ref fI, [self])) (hrest : rest.length ≤ sizeLine)
    (hq : codeAny (model prog w) A (.call (.ref fI) ⟨.ref (h.objs.size + 1) :: rest, ks⟩)
      (fun r s' => match r with | .ok (.ret v) => v = .none ∧ Q (.done (.ret (.ref (h.objs.size + 1)))) s' | .ok _ => False | .error e => E e s')
      ⟨(h.push (W.kdv_tup rest)).push (excO C h.objs.size), g, d, t, os⟩) :
    wpAny (model prog w) A (Builtin.«type.__call__» ⟨.ref C :: rest, ks⟩) Q E ⟨h, g, d, t, os⟩ := by
  repeat (first | with_reducible refine wpAny_loadPart_at hC ?_ | with_reducible refine wpAny_madeBy_exc hC ?_ | wp_step)
  refine codeAny_call_builtin_code (Code.quiet_builtin _ F.quiet) (check_newK F hT hC ?_)
  refine new_ownK F hT hC ?_ hrest
  show wpAny _ _ _ _ _ _
  have k : ∀ b o, h.get? b = some o → ((h.push (W.kdv_tup rest)).push (excO C h.objs.size)).get? b = some o := fun b o e => Heap.get?_push_of_some _ (Heap.get?_push_of_some _ e)
  have hC₁ := k _ _ hC
  have hget : ((h.push (W.kdv_tup rest)).push (excO C h.objs.size)).get? (h.objs.size + 1) = some (excO C h.objs.size) := by heap_get
  have hcC : (Value.ref C :: bm).contains (.ref C) = true := by simp
  have i1 := hi.keeps k
  have b1 := (hb (.ref (h.objs.size + 1))).keeps k
  unfold isInstance
  repeat (first | with_reducible refine wpAny_loadPart_at hget ?_ | (with_reducible refine wpAny_isSubtype_exc hC₁ ?_; rw [hcC]) | wp_step)
  show wpAny _ _ (typeLookup (.ref C) _) _ _ _
  refine i1.at ?_
  refine wpAny_holding (wpAny_bind (b1.at ?_))
  refine wpAny_bind (wpAny_call (codeAny_mono hq fun r s' z => ?_))
  rcases r with e | (v | _ | _ | _) <;> first | exact z | exact z.elim | skip
  obtain ⟨rfl, z⟩ := z
  first
    | exact wpAny_pure (wpAny_pure z)
    | (wp_walk; exact z)
theorem call_ownK (F : ExcBaseFacts B newId initId bmB) (hT : ∀ X : String, bm.contains (.type X) = bmB.contains (.type X)) {rest : List Value} {ks : List (Str × Value)} {fI : Addr}
    (hC : h.get? C = some (excClassObj nm q C N bs bm hdct sn sub ab col dd k0 k1 k2 k3 k5 newId))
    (hi : W.Looks (model prog w) h (typeLookup (.ref C) "__init__") (some (.ref fI))) (hb : ∀ self, W.Looks (model prog w) h (bindSpecial (.ref fI) self) (.ref fI, [self])) (hrest : rest.length ≤ sizeLine)
    (hq : codeAny (model prog w) (A.under (.builtin "type.__call__" ⟨.ref C :: rest, ks⟩)) (.call (.ref fI) ⟨.ref (h.objs.size + 1) :: rest, ks⟩) (W.InitBack (h.objs.size + 1) R)
      ⟨(h.push (W.kdv_tup rest)).push (excO C h.objs.size), g, d, t, os⟩) :
    codeAny (model prog w) A (.call (.ref C) ⟨rest, ks⟩) R ⟨h, g, d, t, os⟩ := by
  have f1 := tc_lookup
  have f2 := tc_bind (.ref C)
  have hTy : (⟨h, g, d, t, os⟩ : Shared).TypeIs (.ref C) "type" := ⟨_, hC, rfl⟩
  refine codeAny_of_tree ?_
  show wpAny _ _ (callAny (.ref C) _) _ _ _
  repeat (any_goals (first | assumption | with_reducible refine wpAny_loadPart_at hC ?_ | wp_step))
  refine ⟨rfl, ?_⟩
  refine codeAny_call_builtin_at (Code.quiet_builtin _ (by decide +kernel)) entry_typeCall (wpAny_check_type_call_sub hC (type_callK F hT hC hi hb hrest ?_))
  refine codeAny_mono hq fun r s' z => ?_
  rcases r with e | (v | _ | _ | _) <;> exact z
end
end EX
end Ld
/-! Own exceptions as values: the rules. -/
namespace Ld
open PySem PySem.Spec PyProof.Rows L2
/-- a new exception, its own __init__ keeping sp -/
def tMkX (C : Addr) (n m : Nat) (sp : Sp) (gV : List V → List V → List V) (ta tk : TA) : TE := fun σ H Q => ta σ H fun vs H1 => tk σ H1 fun zs H2 => vs.length = n ∧ zs.length = m ∧ ∀ a, H2 a = none →
  sp (gV (.ref a :: vs) zs) (upd H2 a (exo a C none)) (fun v H3 => v = .non ∧ Q (.ref a) H3) E0
/-- what the class must say to make -/
structure XMk (K : PySem.W.Frag) (C fI : Addr) : Prop where
  T : OexC K C
  iC : PySem.W.findIn K (.ref C) "__init__" = some (some (.ref fI))
  tI : PySem.W.typeIn K (.ref fI) = some (.type "function")
section
variable {X : Cx} {k n : Nat} {C fI : Addr} {fd : FuncData} {ps ks : List Str} {sp : Sp} {x : Str} {p pos : Pos} {e : Expr} {es : List Expr} {kws : List Keyword} {ta tk : TA} {g : List Value → List Value → List Value} {gV : List V → List V → List V}
theorem run_mkx {pins : List (Addr × Obj)} {σ : L2.St} {H : Hp} {s : Shared} {Q : VK} {us ws : List Value} {vs zs : List V} (M : XMk X.K C fI) (F : FnOk X.prog X.w X.K X.mg X.base CX0 k fI fd ps sp) (hr : Room (k + 1) X.A) (hb : KBn X.K fd ps (n + 1) ks g gV)
    (I : Inv X pins σ H s) (r : Vals vs us) (rz : Vals zs ws) (l1 : vs.length = n) (l2 : zs.length = ks.length) (hn : n ≤ 1000)
    (h : ∀ a, H a = none → sp (gV (.ref a :: vs) zs) (upd H a (exo a C none)) (fun v H2 => v = .non ∧ Q (.ref a) H2) E0) :
    wpAny (model X.prog X.w) X.A (call (.ref C) us (ks.zip ws)) (EP X pins σ Q) X.xe s := by
  obtain ⟨nm, q, N, bs, bm, sn, sub, ab, col, dd, k0, k1, k2, k3, k5, hC, hbm⟩ := M.T.cls
  obtain ⟨hp, gs, dr, tk, os⟩ := s
  have hsz : hp.objs.size ≤ hp.objs.size + 1 := Nat.le_succ _
  have hn0 : H (hp.objs.size + 1) = none := I.hok.fresh hsz
  have hq := h (hp.objs.size + 1) hn0
  have kk : ∀ b o, hp.get? b = some o → ((hp.push (PySem.W.kdv_tup us)).push (PySem.HandSPX.excO C hp.objs.size)).get? b = some o := fun b o e => Heap.get?_push_of_some _ (Heap.get?_push_of_some _ e)
  have hget : ((hp.push (PySem.W.kdv_tup us)).push (PySem.HandSPX.excO C hp.objs.size)).get? (hp.objs.size + 1) = some (PySem.HandSPX.excO C hp.objs.size) := by heap_get
  have I2 : Inv X pins σ (upd H (hp.objs.size + 1) (exo (hp.objs.size + 1) C none)) ⟨(hp.push (PySem.W.kdv_tup us)).push (PySem.HandSPX.excO C hp.objs.size), gs, dr, tk, os⟩ :=
    I.laid (t' := tk) (a := hp.objs.size + 1) (o := exo (hp.objs.size + 1) C none) (h' := (hp.push (PySem.W.kdv_tup us)).push (PySem.HandSPX.excO C hp.objs.size)) kk hsz (exo_ok hget)
  have r1 : Vals (V.ref (hp.objs.size + 1) :: vs) (Value.ref (hp.objs.size + 1) :: us) := .cons rfl r
  have r2 := hb.rel r1 rz
  have e1 : (Value.ref (hp.objs.size + 1) :: us).length = n + 1 := r1.length.symm.trans (congrArg Nat.succ l1)
  have e2 : ws.length = ks.length := rz.length.symm.trans l2
  have hus : us.length ≤ sizeLine := by
    rw [← Paired.length r, l1, sizeLine_eq]
    omega
  refine wpAny_call (EX.call_ownK PySem.F.excBase_ValueError (fun Y => PySem.HandSPX.refsVE_contains Y bm hbm) (I.kIn _ _ hC) (PySem.W.looks_findIn I.kIn M.iC) (fun self => PySem.W.bind_fn I.kIn self M.tI) hus
    (codeAny_mono (F.run _ X.stack _ _ ⟨Value.ref (hp.objs.size + 1) :: us, ks.zip ws⟩ (g (Value.ref (hp.objs.size + 1) :: us) ws) _ _ E0 (hr.make C us (ks.zip ws)) (I2.env0.make C us (ks.zip ws)) (hb.to _ (Value.ref (hp.objs.size + 1) :: us) ws I2.kIn e1 e2) r2 hq) fun r s' hq' => ?_))
  cases r with
  | error er => exact pass0 pins σ _ _ er s' I2 hq'
  | ok fl =>
    cases fl with
    | ret u =>
      obtain ⟨v, H', I3, rv, ev, q3⟩ := I2.after hq'
      subst ev
      exact ⟨rv, ⟨V.ref (hp.objs.size + 1), H', I3, rfl, q3⟩⟩
    | next => exact False.elim hq'
    | brk => exact False.elim hq'
    | cont => exact False.elim hq'
/-- C(e) -/
theorem kbn0 {K : PySem.W.Frag} (hb : Binds K fd ps []) : KBn K fd ps ps.length [] (fun us _ => us) (fun vs _ => vs) where
  to := fun s us ws X l1 l2 => by
    have z := hb s us X (by rw [List.append_nil]; exact l1)
    rw [List.append_nil] at z
    exact z
  rel := fun r _ => r
theorem pe_mkx (M : XMk X.K C fI) (F : FnOk X.prog X.w X.K X.mg X.base CX0 k fI fd ps sp) (hr : Room (k + 1) X.A) (hb : KBn X.K fd ps (n + 1) [] (fun us _ => us) (fun vs _ => vs)) (hg : Gl X x) (hm : X.mg x = some (.ref C)) (ha : PA X (e :: es) ta) (hn : n ≤ 1000 := by decide)
    (hdb : (x == ("__debug__" : Str)) = false := by decide) (he : starEach (e :: es) X.env = (false, eval e X.env) :: starEach es X.env := by rfl) (hpl : (backTo pos (starEach es X.env)).any (·.1) = false := by rfl) :
    PE X (.Call (.Name x p) (e :: es) [] pos) (tMkX C n 0 sp (fun vs _ => vs) ta (fun σ H R => R [] H)) := by
  refine ⟨fun pins s σ H Q I h => ?_⟩
  refine wpAny_Call_Name_kw (ld_glob I hg hm ?_ hdb)
  refine PySem.W.callWith_K (h₀ := X.base) I.ok.mod.kin M.T.kC (thn (ha.run pos pins s σ H _ I h) fun us s1 ⟨vs, H1, I1, r1, l1, l2, q1⟩ => ⟨I1.kIn, ?_⟩) he hpl
  exact run_mkx (ws := []) (zs := []) (ks := []) M F hr hb I1 r1 .nil l1 rfl hn q1
/-- C(k = v) -/
theorem pe_mkxK (M : XMk X.K C fI) (F : FnOk X.prog X.w X.K X.mg X.base CX0 k fI fd ps sp) (hr : Room (k + 1) X.A) (hb : KBn X.K fd ps 1 ks g gV) (hg : Gl X x) (hm : X.mg x = some (.ref C)) (hkw : PK X kws tk)
    (hall : (backToKw pos (keywordEach kws X.env)).all (·.1.isSome) = true := by rfl) (hks : (backToKw pos (keywordEach kws X.env)).filterMap (·.1) = ks := by rfl) (hdb : (x == ("__debug__" : Str)) = false := by decide)
    (hpl : ((backTo pos (starEach [] X.env)).any (·.1) || (backToKw pos (keywordEach kws X.env)).any (·.1.isNone)) = false := by rfl) :
    PE X (.Call (.Name x p) [] kws pos) (tMkX C 0 ks.length sp gV tNil tk) := by
  refine ⟨fun pins s σ H Q I h => ?_⟩
  refine wpAny_Call_Name_kw (ld_glob I hg hm ?_ hdb)
  refine PySem.W.callWith_KW0 (h₀ := X.base) I.ok.mod.kin M.T.kC hall ?_ hpl
  refine thn (hkw.run pos pins s σ H _ I h) fun ws s2 ⟨zs, H2, I2, rz, l1, l2, q2⟩ => ⟨I2.kIn, ?_⟩
  rw [hks]
  exact run_mkx (us := []) (vs := []) M F hr hb I2 .nil rz rfl l2 (Nat.zero_le _) q2
/-- f(k = v, ..) of a def -/
def tDfK (m : Nat) (sp : Sp) (gV : List V → List V → List V) (tk : TA) : TE := fun σ H Q => tk σ H fun zs H2 => zs.length = m ∧ sp (gV [] zs) H2 Q E0
theorem pe_dfK {f : Addr} (F : FnOk X.prog X.w X.K X.mg X.base CX0 k f fd ps sp) (hr : Room k X.A) (hg : Gl X x) (hm : X.mg x = some (.ref f)) (hk : PySem.W.keepIn X.K (.ref f) = true) (hb : KBn X.K fd ps 0 ks g gV) (hkw : PK X kws tk)
    (hall : (backToKw pos (keywordEach kws X.env)).all (·.1.isSome) = true := by rfl) (hks : (backToKw pos (keywordEach kws X.env)).filterMap (·.1) = ks := by rfl) (hdb : (x == ("__debug__" : Str)) = false := by decide)
    (hpl : ((backTo pos (starEach [] X.env)).any (·.1) || (backToKw pos (keywordEach kws X.env)).any (·.1.isNone)) = false := by rfl) :
    PE X (.Call (.Name x p) [] kws pos) (tDfK ks.length sp gV tk) := by
  refine ⟨fun pins s σ H Q I h => ?_⟩
  refine wpAny_Call_Name_kw (ld_glob I hg hm ?_ hdb)
  refine PySem.W.callWith_KW0 (h₀ := X.base) I.ok.mod.kin hk hall ?_ hpl
  refine thn (hkw.run pos pins s σ H _ I h) fun ws s2 ⟨zs, H2, I2, rz, l2, q2⟩ => ⟨I2.kIn, ?_⟩
  rw [hks]
  exact run_fnN (us := []) (vs := []) F hr hb pass0 I2 .nil rz rfl l2 q2
end
/-! ### an exception that stands -/
/-- at a stands an exception of C with the fields fs -/
def ExV (H : Hp) (a C d : Addr) (fs : List (Str × V)) : Prop := H a = some (exo a C (some d)) ∧ H d = some (exd d fs)
theorem ExV.same {H H' : Hp} {a C d : Addr} {fs : List (Str × V)} (h : ExV H a C d fs) (s : Same H H') : ExV H' a C d fs := ⟨s _ _ h.1, s _ _ h.2⟩
theorem ExV.inst {P : Program} {w : World} {H : Hp} {h : Heap} {a C d : Addr} {fs : List (Str × V)} (hok : HOk P w H h) (z : ExV H a C d fs) :
    ∃ (oe od : Obj) (mA : Str → Option Value), PySem.W.InstAt h a oe C (some od) ∧ h.get? d = some od ∧ (∀ n, PySem.W.lookIn n od = some (mA n)) ∧ ∀ f, RelO (fs.lookup f) (mA f) := by
  obtain ⟨t1, he⟩ := exo_at hok z.1
  obtain ⟨mA, hns, hr⟩ := exd_at hok z.2
  obtain ⟨od, ho, hl⟩ := lookIn_ns hns
  exact ⟨_, od, mA, ⟨he, rfl, rfl, ho⟩, ho, hl, hr⟩
/-- e.f -/
def tXv (K : PySem.W.Frag) (n : Str) (te : TE) : TE := fun σ H Q => te σ H fun x H1 => ∃ (a C d : Addr) (fs : List (Str × V)) (v : V), x = .ref a ∧ ExV H1 a C d fs ∧ XfC K C ∧ PySem.W.findIn K (.ref C) n = some none ∧ fs.lookup n = some v ∧ Q v H1
theorem pe_xv {X : Cx} {K : PySem.W.Frag} {e : Expr} {te : TE} {pos : Pos} {n : Str} (he : PE X e te) (hK : X.K = K := by rfl) (hb : attributeBase e n X.env (eval e X.env) = eval e X.env := by rfl) : PE X (.Attribute e n pos) (tXv K n te) := by
  subst hK
  refine ⟨fun pins s σ H Q I h => ?_⟩
  refine attr_of hb (thn (he.run pins s σ H _ I h) fun u s1 hh => ?_)
  obtain ⟨x, H1, I1, rx, a, C, d, fs, v, ex, z, T, hno, l, q⟩ := hh
  subst ex
  obtain rfl : u = Value.ref a := rx
  obtain ⟨oe, od, mA, J, ho, hl, hr⟩ := z.inst I1.hok
  obtain ⟨u, hu, ru⟩ := RelO.some_of (v := v) (o := mA n) (by rw [← l]; exact hr n)
  exact HandSPX.exc_get I1.kIn J T.ga T.gg T.exC (PySem.W.findObj_own T.hdC hno rfl (by rw [hl, hu])) (handed_of ru) ⟨v, H1, I1.tok _, ru, q⟩
end Ld
namespace Ld
namespace EX
open PySem PySem.Spec PySem.Calls PyProof.Rows PySem.W
section
variable {prog : Program} {w : World} {A : Around} {E : Value → Shared → Prop} {s : Shared} {K : Frag} {x D : Addr} {ox : Obj} {od : Option Obj}
theorem findObj_dataO {C : Addr} {name : Str} {a g : Value} (hc : (clsIn K C).isSome = true) (ha : findIn K (.ref C) name = some (some a)) (hg : specialIn K a "__get__" = some (some g)) (ht : takesIn K a = some true) : findObj K C od name = some (.bind g a) := by
  obtain ⟨cd, hc⟩ := Option.isSome_iff_exists.mp hc
  unfold findObj
  rw [hc, Option.bind_some, ha, Option.bind_some]
  simp [hg, ht]
theorem kin_classX {Q : Option Value → Shared → Prop} (hga : findIn K (.ref D) "__getattribute__" = some (some (.builtin "BaseException.__getattribute__"))) (hgt : findIn K (.ref D) "__getattr__" = some none) (hsub : subIn K (.ref D) (.type "BaseException") = some true)
    (hdct : hasDictIn K D = true) (ha : findIn K (.ref D) "__class__" = some (some (.builtin "object.__class__")))
    (hn : specialIn K (.builtin "object.__class__") "__get__" = some (some (.builtin "getset_descriptor.__get__"))) (htk : takesIn K (.builtin "object.__class__") = some true) (hm : mroIn K D (.type "object") = some true)
    (X : K.In s.heap) (I : InstAt s.heap x ox D od) (h : Q (some (.ref D)) { s with toks := s.toks + 1 }) : wpAny (model prog w) A (getAttr? (.ref x) "__class__") Q E s := by
  have hf : findObj K D od "__class__" = some (.bind (.builtin "getset_descriptor.__get__") (.builtin "object.__class__")) := findObj_dataO (by obtain ⟨cd, hc, _⟩ := any_some hdct; rw [hc]; rfl) ha hn htk
  obtain ⟨hp, g, d, t, os⟩ := s
  have L0 := I.type (M := model prog w)
  have L1 := looks_findIn (M := model prog w) X hga
  have L2 := looks_findIn (M := model prog w) X hgt
  have L3 := looks_find (M := model prog w) X I hf
  have sub : Looks (model prog w) hp (isInstance (.ref x) (.type "BaseException")) true := L0.andThen (looks_subIn X hsub)
  have hx0 : (false && onTheHeap (Value.builtin "BaseException.__getattribute__")) = false := rfl
  have hx2 : (Value.builtin "BaseException.__getattribute__" == Value.builtin "object.__getattribute__") = false := by decide +kernel
  have hx1 : (onTheHeap (Value.ref D) && Value.builtin "BaseException.__getattribute__" == Value.builtin "object.__getattribute__") = false := by rw [hx2]; rfl
  unfold getAttr? getAttrBy? getAttrBy
  refine wpAny_bind (wpAny_mkText (wpAny_bind (wpAny_attempt (wpAny_holding (wpAny_bind (L0.at (wpAny_bind (L1.at ?_))))))))
  show wpAny _ _ (if (onTheHeap (Value.ref D) && Value.builtin "BaseException.__getattribute__" == Value.builtin "object.__getattribute__") = true then _ else _) _ _ _
  rw [hx1, if_neg Bool.false_ne_true]
  unfold getAttrByItsOwn hookBefore
  refine wpAny_bind ?_
  rw [if_pos (show onTheHeap (Value.ref D) = true from rfl)]
  refine L2.at ?_
  refine wpAny_bind (wpAny_attempt (wpAny_holding ?_))
  unfold callGetattribute
  rw [hx0, if_neg Bool.false_ne_true]
  unfold boundAndCalled
  rw [PySem.F.excAttr_ValueError.ga.bind (.ref x)]
  refine wpAny_bind (wpAny_pure ?_)
  show wpAny _ _ (call (.builtin "BaseException.__getattribute__") [.ref x, .str "__class__" t]) _ _ _
  refine wpAny_call (codeAny_call_builtin PySem.F.excAttr_ValueError.ga.plain PySem.F.entry_bexc_ga ?_)
  refine @check_slot (model prog w) _ _ ⟨hp, g, d, t + 1, os⟩ "BaseException.__getattribute__" "BaseException" "__getattribute__" (.ref x) [.str "__class__" t] [] _ (by decide +kernel) (by decide +kernel) sub (PySem.F.args_bexc_ga (.ref x) (.str "__class__" t)) ?_
  unfold Builtin.«object.__getattribute__»
  refine wpAny_bind (wpAny_of_eq (a := ((Value.ref x : Value), [Value.str "__class__" t])) (by first | rfl | (simp only [slotArgs]; rfl)) ?_)
  refine wpAny_bind (wpAny_pure (wpAny_bind (L0.at (wpAny_bind (L3.at ?_)))))
  show wpAny _ _ (holding [Value.builtin "object.__class__"] (call (.builtin "getset_descriptor.__get__") [.builtin "object.__class__", .ref x, .ref D]) >>= ret) _ _ _
  refine wpAny_bind (wpAny_holding (wpAny_call (class_get (s := ⟨hp, g, d, t + 1, os⟩) (ox := ox) (od := od) X I hm ?_)))
  refine wpAny_pure ?_
  show wpAny _ _ (handedOut (.ref D)) _ _ _
  rw [handedOut_of (v := .ref D) rfl]
  first
    | exact wpAny_pure (wpAny_pure h)
    | exact wpAny_pure h
    | exact wpAny_pure (wpAny_bind (wpAny_pure (wpAny_pure h)))
theorem kitx_exo (hga : findIn K (.ref D) "__getattribute__" = some (some (.builtin "BaseException.__getattribute__"))) (hgt : findIn K (.ref D) "__getattr__" = some none) (hsub : subIn K (.ref D) (.type "BaseException") = some true) (hdct : hasDictIn K D = true) (ha : findIn K (.ref D) "__class__" = some (some (.builtin "object.__class__")))
    (hn : specialIn K (.builtin "object.__class__") "__get__" = some (some (.builtin "getset_descriptor.__get__"))) (htk : takesIn K (.builtin "object.__class__") = some true) (hm : mroIn K D (.type "object") = some true) :
    KitX K (.ref x) (.ref D) (fun h => ∃ ox od, InstAt h x ox D od) where
  ty := fun _ _ _ ⟨_, _, I⟩ => I.type
  it := fun _ _ X _ => by
    obtain ⟨cdD, hcD, _⟩ := any_some hdct
    unfold clsIn at hcD
    split at hcD
    · rename_i c' d' cd' sl' ho
      intro A' Q' E' s' k q
      unfold isType loadHead
      exact wpAny_bind (wpAny_loadPart (k _ _ (X _ _ ho)) (wpAny_pure q))
    · cases hcD
  ne := fun h tp dd its n sl X htp => by
    obtain ⟨cdD, hcD, _⟩ := any_some hdct
    refine Bool.eq_false_iff.mpr fun q => ?_
    have e : D = tp := Value.ref.inj (beq_iff_eq.mp q)
    subst e
    unfold clsIn at hcD
    split at hcD
    · rename_i c' d' cd' sl' ho
      have z := (X _ _ ho).symm.trans htp
      cases z
    · cases hcD
  ca := fun X ⟨_, _, I⟩ k => kin_classX hga hgt hsub hdct ha hn htk hm X I k
end
end EX
end Ld
namespace Ld
open PySem PySem.Spec PyProof.Rows L2
/-- isinstance(e, c) of an exception that stands -/
def rIsX (K : PySem.W.Frag) : List V → Hp → VK → Prop := fun xs H Q => ∃ (a C d : Addr) (fs : List (Str × V)) (c : V) (cv : Value) (b : Bool), xs = [.ref a, c] ∧ ExV H a C d fs ∧ ExcC K C ∧ (∀ u, RelV c u → u = cv) ∧ PySem.W.kitOne K (.ref C) cv = some b ∧ Q (.bl b) H
theorem call_isX {X : Cx} {K : PySem.W.Frag} (hK : X.K = K := by rfl) : CallR X (.builtin "isinstance") (rIsX K) := by
  subst hK
  intro pins s σ H xs us Q I r h
  obtain ⟨a, D, d, fs, c, cv, b, rfl, z, C, hcv, e, q⟩ := h
  cases r with
  | cons rx rr =>
    cases rr with
    | cons rt rr =>
      cases rr
      cases rx
      have ec := hcv _ rt
      subst ec
      obtain ⟨oe, od, mA, J, _, _, _⟩ := z.inst I.hok
      exact PySem.W.kia_one (EX.kitx_exo C.hg C.hk C.hs C.hd C.ha C.hn C.ht C.hm) I.kIn ⟨oe, some od, J⟩ e (fun z => nomatch z) fun tk => ⟨.bl b, H, I.kept (t' := tk) fun _ _ z => z, rfl, q⟩
end Ld
/-! New lists, apart from the table of modules. -/
namespace Ld
open PySem L2 PyProof.Rows
section
variable {X : Cx}
def tLstN (t : TA) : TE := fun σ H Q => t σ H fun xs H1 => xs.length ≤ sizeLine ∧ ∀ p, H1 p = none → p ≠ sysModules → Q (.ref p) (upd H1 p (.lst xs))
theorem pe_lstN {es : List Expr} {t : TA} {pos : Pos} (h : PA X es t) : PE X (.List es pos) (tLstN t) := by
  refine ⟨fun pins s σ H Q I hq => ?_⟩
  refine wpAny_List_spliced (thn (h.run pos pins s σ H _ I hq) fun us s1 ⟨xs, H1, I1, r, z, q⟩ => ⟨by rw [← r.length]; exact z, ?_⟩)
  have hf : H1 s1.heap.objs.size = none := I1.hok.fresh (Nat.le_refl _)
  refine ⟨.ref s1.heap.objs.size, upd H1 s1.heap.objs.size (.lst xs), I1.laid (t' := s1.toks) (fun b u e => Heap.get?_push_of_some _ e) (Nat.le_refl _) ?_, rfl, q _ hf (Nat.ne_of_gt I1.big)⟩
  exact ⟨z, us, 0, r, Heap.get?_push_size _ rfl⟩
def rCatN : R2 := fun x y H Q => ∃ l b xs zs, x = .ref l ∧ y = .ref b ∧ H l = some (.lst xs) ∧ H b = some (.lst zs) ∧ xs.length + zs.length ≤ sizeLine ∧ ∀ p, H p = none → p ≠ sysModules → Q (.ref p) (upd H p (.lst (xs ++ zs)))
theorem op_catN : OpR X (binaryOp .Add) rCatN := by
  intro pins s σ H x y v u Q I rx ry h
  obtain ⟨l, b, xs, zs, rfl, rfl, hH, hB, hz, q⟩ := h
  cases rx
  cases ry
  obtain ⟨z, its, n, r, hl, e⟩ := I.lstM hH
  obtain ⟨z2, its2, n2, r2, hl2, e2⟩ := I.lstM hB
  refine PySem.P.add_list e e2 ?_ (by rw [List.size_toArray, List.size_toArray]; omega)
  have ea : its.toArray ++ its2.toArray = (its ++ its2).toArray := by simp
  rw [ea]
  exact ⟨.ref _, _, I.lnew (t' := s.toks) (r.append r2) (by rw [List.length_append]; omega), rfl, q _ I.fresh (Nat.ne_of_gt I.big)⟩
def rRepN : R2 := fun x y H Q => ∃ l k xs, x = .ref l ∧ y = .int k ∧ H l = some (.lst xs) ∧ -(2 ^ 63) ≤ k ∧ k < 2 ^ 63 ∧ xs.length * k.toNat ≤ sizeLine ∧
  ∀ p, H p = none → p ≠ sysModules → Q (.ref p) (upd H p (.lst (List.replicate k.toNat xs).flatten))
theorem op_repN : OpR X (binaryOp .Mult) rRepN := by
  intro pins s σ H x y v u Q I rx ry h
  obtain ⟨l, k, xs, rfl, rfl, hH, h1, h2, hz, q⟩ := h
  cases rx
  obtain ⟨t, rfl⟩ := ry
  obtain ⟨z, its, n, r, hl, e⟩ := I.lstM hH
  have hlen : its.toArray.size * k.toNat ≤ sizeLine := by rw [List.size_toArray, ← hl]; exact hz
  have hcap : ¬ its.toArray.size * k.toNat > (2 ^ 63 - 1) / 8 := by
    have : (sizeLine : Nat) ≤ (2 ^ 63 - 1) / 8 := by decide
    omega
  have hfit : ¬ (!Builtin.List.listFitsIndex k) = true := by
    rw [fitsIndex_both h1 h2]
    exact Bool.false_ne_true
  have hlong : ¬ Builtin.List.listTooLong (its.toArray.size * k.toNat) = true := by
    rw [notLongL hlen]
    exact Bool.false_ne_true
  have hnew : List.foldl (fun x1 x2 => x1 ++ x2) #[] (List.replicate (if its.toArray.isEmpty = true then 0 else k.toNat) its.toArray) = (List.replicate k.toNat its).flatten.toArray := by
    have f0 : ∀ m : Nat, List.foldl (fun x1 x2 => x1 ++ x2) #[] (List.replicate m its.toArray) = (List.replicate m its).flatten.toArray := fun m => by
      have := foldl_rep its m []
      rw [List.nil_append] at this
      exact this
    rw [f0]
    cases its with
    | nil => simp
    | cons a r' => rw [if_neg (by simp)]
  refine wpAny_binaryOp_repeat_ref (T := "list") (U := "int") (by decide) ⟨_, e, rfl⟩ (fun s' => typeIs_int s' k t) noFill_list_mul F.fills_int_mul F.slot_int_rmul repeat_list F.slot_int_index.lookup
    (call_meets F.slot_int_rmul (typeIs_int s k t) F.entry_int_rmul (F.args_int_rmul_2 _ _) (int___rmul___int_list k t l its.toArray n)
      ⟨e, rfl, ⟨_, e, rfl⟩, call_meets F.slot_list_mul ⟨_, e, rfl⟩ F.entry_list_mul (F.args_list_mul_2 _ _) (AutoListH.list___mul___list_int_3 l its.toArray n k t hfit hcap hlong) ⟨e, ?_⟩⟩)
  rw [hnew]
  exact ⟨.ref _, _, I.lnew (t' := s.toks) (r.rep k.toNat) (by rw [PyProof.Rows.lm_len_rep_flat, Nat.mul_comm]; exact hz), rfl, q _ I.fresh (Nat.ne_of_gt I.big)⟩
end
section
variable {K : PySem.W.Frag} {H : Hp} {v : V}
theorem Dd.int_v {i : Int} (h : Dd K H v (.int i)) : v = .int i := by
  cases h
  rfl
theorem Dd.str_v {z : Str} (h : Dd K H v (.str z)) : v = .str z := by
  cases h
  rfl
theorem Dd.its {ds : List PyData} (z : Dd K H v (.tuple ds)) : ∃ a xs, v = .ref a ∧ SqT K H a xs ∧ xs.length = ds.length ∧ ∀ (i : Nat) (x : V), xs[i]? = some x → ∃ d, ds[i]? = some d ∧ Dd K H x d := by
  cases z with
  | tup hs ha => exact ⟨_, _, rfl, hs, ha.len, ha.get⟩
end
end Ld
namespace K28
open PySem L2 Ld
def top (i : Nat) : Stmt := PySem.Challenge.pw_leadsever_k28_rounds_judged.main.body.getD i (.Pass ⟨0, 0, 0, 0⟩)
abbrev sNum : Stmt := top 8
abbrev sWord : Stmt := top 9
abbrev sAddr : Stmt := top 10
abbrev sPlace : Stmt := top 11
/-- what is left of the top -/
structure Tx (mg : Str → Option Value) : Prop where
  isi : mg "isinstance" = none
  int : mg "int" = none
  bool : mg "bool" = none
  str : mg "str" = none
  tuple : mg "tuple" = none
  list : mg "list" = none
  len : mg "len" = none
  range : mg "range" = none
  repr : mg "repr" = none
  max : mg "max" = none
  min : mg "min" = none
  wl : ∃ t, mg "WORD_LETTERS" = some (.int 12 t)
  pw : ∃ t, mg "PLACE_WORDS" = some (.int 4 t)
  md : ∃ t, mg "MOST_DAYS" = some (.int 10000 t)
section
variable {P : Program} {w : World} {K : PySem.W.Frag} {mg : Str → Option Value} {base : Heap} {f : Addr} {fd : FuncData}
def spNum (K : PySem.W.Frag) : Sp := fun vs H Q _ => ∃ (v : V) (d : PyData) (hi : Int), vs = [v, .int hi] ∧ Dd K H v d ∧ Q (.bl (numD hi d)) H
theorem scN : FnScope ["value", "highest"] ["value", "highest"] (defScope sNum) := ⟨rfl, rfl, rfl, by decide +kernel, rfl, by decide +kernel, by decide +kernel⟩
theorem ok_num (F : Fun K "is_number_to" "is_number_to" sNum f fd) (T : Tx mg) : FnOk P w K mg base CX0 1 f fd ["value", "highest"] (spNum K) := by
  refine F.ok scN (fun vs H Q E h => ?_) (fun cdv A outer s H vs Q E hr h => ?_)
  · obtain ⟨v, d, hi, rfl, _⟩ := h
    rfl
  · obtain ⟨v, d, hi, rfl, hT, q⟩ := h
    refine ⟨_, pss_one (ps_ret (pe_and (pe_callB (call_isa "int") (by rfl) T.isi bootN (pa_cons (pv 0) (pa_cons (pe_bltn (v := .ty "int") (by rfl) T.int (by decide +kernel) rfl) pa_nil)))
      (pe_and (pe_not (pe_callB (call_isa "bool") (by rfl) T.isi bootN (pa_cons (pv 0) (pa_cons (pe_bltn (v := .ty "bool") (by rfl) T.bool (by decide +kernel) rfl) pa_nil)))) (pe_one (pe_chain op_le op_le pe_int (pv 0) (pv 1)))))), ?_⟩
    refine ⟨_, rfl, _, rfl, _, _, hT.ty, kit_int d, _, rfl, ?_⟩
    by_cases hi1 : isIntD d = true
    · rw [hi1]
      refine iteT ⟨_, rfl, _, rfl, _, _, hT.ty, kit_bool d, _, rfl, _, rfl, ?_⟩
      cases d with
      | int i =>
        have e := hT.int_v
        subst e
        refine iteT ⟨_, rfl, _, _, rfl, rfl, _, rfl, ?_⟩
        by_cases h0 : 0 ≤ i
        · rw [decide_eq_true h0]
          refine iteT ⟨_, rfl, _, _, rfl, rfl, ?_⟩
          have e : numD hi (.int i) = decide (i ≤ hi) := by simp [numD, h0]
          rw [e] at q
          exact q
        · rw [decide_eq_false h0]
          have e : numD hi (.int i) = false := by simp [numD, h0]
          rw [e] at q
          exact iteF q
      | bool b => exact iteF q
      | none => cases hi1
      | str z => cases hi1
      | list ds => cases hi1
      | tuple ds => cases hi1
      | dict ds => cases hi1
    · have hi2 : isIntD d = false := by simpa using hi1
      rw [hi2]
      have e : numD hi d = false := by
        cases d <;> first | rfl | (simp [isIntD] at hi2)
      rw [e] at q
      exact iteF q
def spWord (K : PySem.W.Frag) : Sp := fun vs H Q _ => ∃ (v : V) (d : PyData), vs = [v] ∧ Dd K H v d ∧ FitS d ∧ Q (.bl (wordD d)) H
theorem scW : FnScope ["value"] ["value"] (defScope sWord) := ⟨rfl, rfl, rfl, by decide +kernel, rfl, by decide +kernel, by decide +kernel⟩
theorem ok_word (F : Fun K "is_word" "is_word" sWord f fd) (T : Tx mg) : FnOk P w K mg base CX0 1 f fd ["value"] (spWord K) := by
  refine F.ok scW (fun vs H Q E h => ?_) (fun cdv A outer s H vs Q E hr h => ?_)
  · obtain ⟨v, d, rfl, _⟩ := h
    rfl
  · obtain ⟨v, d, rfl, hT, hf, q⟩ := h
    obtain ⟨t, hl⟩ := T.wl
    refine ⟨_, pss_cons (ps_if (PW.pt (pw_or (pt_not (pt_val (pe_callB (call_isa "str") (by rfl) T.isi bootN (pa_cons (pv 0) (pa_cons (pe_bltn (v := .ty "str") (by rfl) T.str (by decide +kernel) rfl) pa_nil)))))
        (pw_or1 (pt_not (pt_chain op_le op_le pe_int (pe_callB call_len_str (by rfl) T.len PySem.boot_len (pa_cons (pv 0) pa_nil)) (pe_glob (v := .int 12) (by rfl) hl ⟨_, rfl⟩))))))
        (pss_one (ps_ret pe_bl)) pss_nil)
      (pss_one (ps_ret (pe_and (pe_m0 PySem.F.slot_str_isascii PySem.F.type_str_isascii mt_isascii (pv 0)) (pe_and (pe_m0 PySem.F.slot_str_isalpha PySem.F.type_str_isalpha mt_isalpha (pv 0)) (pe_one (pe_m0 PySem.F.slot_str_islower PySem.F.type_str_islower mt_islower (pv 0))))))), ?_⟩
    refine ⟨_, rfl, _, rfl, _, _, hT.ty, kit_str d, _, rfl, ?_⟩
    cases d with
    | str z =>
      have e := hT.str_v
      subst e
      have hf : z.length ≤ sizeLine := (hf z rfl).size
      refine iteF ⟨_, rfl, _, rfl, hf, _, _, rfl, rfl, _, rfl, ?_⟩
      have bad : (decide (1 ≤ z.length) && decide (z.length ≤ 12)) = false → wordD (.str z) = false := fun e => by
        show wordS z = false
        unfold wordS
        rw [e, Bool.false_and]
      by_cases h1 : (1 : Int) ≤ (z.length : Int)
      · rw [decide_eq_true h1]
        refine iteT ⟨_, _, rfl, rfl, _, rfl, ?_⟩
        by_cases h2 : (z.length : Int) ≤ 12
        · rw [decide_eq_true h2]
          refine iteF ⟨_, rfl, ⟨_, rfl⟩, _, rfl, rfl, trivial, _, rfl, ?_⟩
          have e : wordD (.str z) = (Txt.isascii z && (Txt.isalpha z && Txt.islower z)) := by
            rw [lows_eq (by omega)]
            show wordS z = _
            unfold wordS
            rw [decide_eq_true (show 1 ≤ z.length by omega), decide_eq_true (show z.length ≤ 12 by omega)]
            rfl
          rw [e] at q
          cases ea : Txt.isascii z with
          | false =>
            rw [ea] at q
            exact iteF q
          | true =>
            rw [ea] at q
            refine iteT ⟨_, rfl, ⟨_, rfl⟩, _, rfl, rfl, trivial, _, rfl, ?_⟩
            cases eb : Txt.isalpha z with
            | false =>
              rw [eb] at q
              exact iteF q
            | true =>
              rw [eb] at q
              exact iteT ⟨_, rfl, ⟨_, rfl⟩, _, rfl, rfl, trivial, q⟩
        · rw [decide_eq_false h2]
          rw [bad (by rw [decide_eq_false (show ¬ z.length ≤ 12 by omega), Bool.and_false])] at q
          exact iteT q
      · rw [decide_eq_false h1]
        rw [bad (by rw [decide_eq_false (show ¬ 1 ≤ z.length by omega), Bool.false_and])] at q
        exact iteF ⟨_, rfl, iteT q⟩
    | _ => exact iteT q
def spAddr (K : PySem.W.Frag) : Sp := fun vs H Q _ => ∃ (v : V) (d : PyData), vs = [v] ∧ Dd K H v d ∧ Fits d ∧ Q (.bl (addrD d)) H
theorem scA : FnScope ["value", "word"] ["value"] (defScope sAddr) := ⟨rfl, rfl, rfl, by decide +kernel, rfl, by decide +kernel, by decide +kernel⟩
theorem all_take {ds : List PyData} {p : PyData → Bool} {i : Nat} {d : PyData} (h : ds[i]? = some d) : (ds.take (i + 1)).all p = ((ds.take i).all p && p d) := by
  rw [List.take_succ, h]
  simp
theorem ok_addr (Fd : Fun K "is_address" "is_address" sAddr f fd) (T : Tx mg) (D : Df P w K mg base 1 "is_word" ["value"] (spWord K)) : FnOk P w K mg base CX0 2 f fd ["value"] (spAddr K) := by
  refine Fd.ok scA (fun vs H Q E h => ?_) (fun cdv A outer s H vs Q E hr h => ?_)
  · obtain ⟨v, d, rfl, _⟩ := h
    rfl
  · obtain ⟨v, d, rfl, hT, hf, q⟩ := h
    refine ⟨_, pss_cons (ps_if (pt_not (pt_val (pe_callB (call_isa "tuple") (by rfl) T.isi bootN (pa_cons (pv 0) (pa_cons (pe_bltn (v := .ty "tuple") (by rfl) T.tuple (by decide +kernel) rfl) pa_nil))))) (pss_one (ps_ret pe_bl)) pss_nil)
      (pss_cons (ps_for PassesOwn.never rfl (pi_tup (pv 0)) (pg_name (i := 1) scA.nd rfl (Or.inl rfl)) (pss_one (ps_if (pt_not (pt_val (pe_df D hr (pa_cons (pv 1) pa_nil)))) (pss_one (ps_ret pe_bl)) pss_nil)))
      (pss_one (ps_ret pe_bl))), ?_⟩
    refine ⟨_, rfl, _, rfl, _, _, hT.ty, kit_tuple d, _, rfl, ?_⟩
    cases d with
    | tuple ds =>
      obtain ⟨a, xs, rfl, hs, hl, hi⟩ := hT.its
      refine iteF ⟨_, rfl, a, rfl, ⟨_, hs⟩, for_tup (K := K) (a := a) (xs := xs) (fun i σ H2 => H2 = H ∧ (∃ u, σ = [some (.ref a), u]) ∧ (ds.take i).all wordD = true) ⟨rfl, ⟨none, rfl⟩, by simp⟩ (fun i σ H2 _ h => by rw [h.1]; exact hs) ?_ ?_⟩
      · rintro i x σ H2 hx ⟨rfl, ⟨u, rfl⟩, ha⟩
        obtain ⟨d, h1, h2⟩ := hi i x hx
        refine ⟨_, rfl, x, d, rfl, h2, (hf.2 ds rfl).2 d (List.mem_of_getElem? h1), _, rfl, ?_⟩
        cases e : wordD d with
          | true =>
            refine iteF ⟨rfl, ⟨_, rfl⟩, ?_⟩
            rw [all_take h1, ha, e]
            rfl
          | false =>
            refine iteT ?_
            have e2 : addrD (.tuple ds) = false := by
              show ds.all wordD = false
              exact List.all_eq_false.mpr ⟨d, List.mem_of_getElem? h1, by rw [e]; exact Bool.false_ne_true⟩
            rw [e2] at q
            exact q
      · rintro σ H2 ⟨rfl, ⟨u, rfl⟩, ha⟩
        have e2 : addrD (.tuple ds) = true := by
          show ds.all wordD = true
          rw [hl, List.take_length] at ha
          exact ha
        rw [e2] at q
        exact q
    | _ => exact iteT q
end
section
variable {P : Program} {w : World} {K : PySem.W.Frag} {mg : Str → Option Value} {base : Heap} {f : Addr} {fd : FuncData}
def placeD : PyData → Bool
  | .tuple ds => decide (ds.length ≤ 4) && ds.all wordD
  | _ => false
def spPlace (K : PySem.W.Frag) : Sp := fun vs H Q _ => ∃ (v : V) (d : PyData), vs = [v] ∧ Dd K H v d ∧ Fits d ∧ Q (.bl (placeD d)) H
theorem scP : FnScope ["value"] ["value"] (defScope sPlace) := ⟨rfl, rfl, rfl, by decide +kernel, rfl, by decide +kernel, by decide +kernel⟩
theorem ok_place (Fd : Fun K "is_place" "is_place" sPlace f fd) (T : Tx mg) (D : Df P w K mg base 2 "is_address" ["value"] (spAddr K)) : FnOk P w K mg base CX0 3 f fd ["value"] (spPlace K) := by
  refine Fd.ok scP (fun vs H Q E h => ?_) (fun cdv A outer s H vs Q E hr h => ?_)
  · obtain ⟨v, d, rfl, _⟩ := h
    rfl
  · obtain ⟨v, d, rfl, hT, hf, q⟩ := h
    obtain ⟨t, hl⟩ := T.pw
    refine ⟨_, pss_one (ps_ret (pe_and (pe_callB (call_isa "tuple") (by rfl) T.isi bootN (pa_cons (pv 0) (pa_cons (pe_bltn (v := .ty "tuple") (by rfl) T.tuple (by decide +kernel) rfl) pa_nil)))
      (pe_and (pe_cmpR op_le (pe_callB call_len_seq (by rfl) T.len PySem.boot_len (pa_cons (pv 0) pa_nil)) (pe_glob (v := .int 4) (by rfl) hl ⟨_, rfl⟩) (nomark _)) (pe_one (pe_df D hr (pa_cons (pv 0) pa_nil)))))), ?_⟩
    refine ⟨_, rfl, _, rfl, _, _, hT.ty, kit_tuple d, _, rfl, ?_⟩
    cases d with
    | tuple ds =>
      obtain ⟨a, xs, rfl, hs, hl, hi⟩ := hT.its
      refine iteT ⟨_, rfl, a, xs, rfl, .inr hs, _, _, rfl, rfl, _, rfl, ?_⟩
      by_cases h4 : ds.length ≤ 4
      · rw [decide_eq_true (by omega)]
        refine iteT ⟨_, rfl, _, .tuple ds, rfl, hT, hf, ?_⟩
        have e : placeD (.tuple ds) = addrD (.tuple ds) := by
          show (decide (ds.length ≤ 4) && ds.all wordD) = ds.all wordD
          rw [decide_eq_true h4, Bool.true_and]
        rw [e] at q
        exact q
      · rw [decide_eq_false (by omega)]
        have e : placeD (.tuple ds) = false := by
          show (decide (ds.length ≤ 4) && ds.all wordD) = false
          rw [decide_eq_false h4, Bool.false_and]
        rw [e] at q
        exact iteF q
    | _ => exact iteF q
end
end K28
/-! The stream of draws: a list of two numbers, which the draws change. -/
namespace Ld
open PySem L2 PyProof.Rows
/-- the stream: its two numbers -/
def Sm (H : Hp) (wa : Addr) : Prop := ∃ d m : Int, H wa = some (.lst [.int d, .int m]) ∧ 0 ≤ d ∧ 0 ≤ m ∧ m < 2 ^ 40
/-- what no stream is -/
def NotSm : HO → Prop
  | .lst [.int _, .int _] => False
  | _ => True
theorem Sm.same {H H' : Hp} {wa : Addr} (W : Sm H wa) (s : Same H H') : Sm H' wa := by
  obtain ⟨d, m, h, r⟩ := W
  exact ⟨d, m, s _ _ h, r⟩
theorem Sm.ne {H : Hp} {wa b : Addr} {o : HO} (W : Sm H wa) (e : H b = some o) (n : NotSm o) : b ≠ wa := by
  obtain ⟨d, m, h, _⟩ := W
  intro z
  subst z
  rw [h] at e
  cases e
  exact n
/-- what stands at another place -/
theorem Sm.off {H H' : Hp} {wa D : Addr} (W : Sm H wa) (n : wa ≠ D) (fr : ∀ c o, c ≠ D → H c = some o → H' c = some o) : Sm H' wa := by
  obtain ⟨d, m, h, r⟩ := W
  exact ⟨d, m, fr _ _ n h, r⟩
theorem notSm_strs : ∀ zs : List Str, NotSm (.lst (zs.map V.str))
  | [] => trivial
  | [_] => trivial
  | _ :: _ :: _ => trivial
theorem notSm_refs : ∀ {xs : List V}, (∀ x ∈ xs, ∃ p, x = V.ref p) → NotSm (.lst xs)
  | [], _ => trivial
  | x :: xs, h => by
    obtain ⟨p, rfl⟩ := h x List.mem_cons_self
    trivial
section
variable {K : PySem.W.Frag} {H H' : Hp} {wa a : Addr} {xs : List V}
theorem smR {u : HO} (W : Sm H wa) (s : Sb wa H H') (n : NotSm u) (h : Rd H a u) : Rd H' a u := by
  rcases h with h | ⟨o, h⟩
  · exact .inl (s a _ (W.ne h n) h)
  · exact .inr ⟨o, s a _ (W.ne h trivial) h⟩
theorem smL (W : Sm H wa) (s : Sb wa H H') (n : NotSm (.lst xs)) (h : SqL K H a xs) : SqL K H' a xs := by
  rcases h with h | h
  · exact .inl (smR W s n h)
  · exact .inr h
theorem smT (W : Sm H wa) (s : Sb wa H H') (h : SqT K H a xs) : SqT K H' a xs := by
  rcases h with h | h
  · exact .inl (smR W s trivial h)
  · exact .inr h
end
/-! numbers of any size, cubed -/
theorem cube_wide {m e : Int} {n : Nat} (h : e.natAbs < 2 ^ n) (hm : m.natAbs < 2 ^ 60) (hn : 60 ≤ n) : (m + e).natAbs < 2 ^ (n + 1) := by
  have h2 : 2 ^ 60 ≤ 2 ^ n := Nat.pow_le_pow_right (by decide) hn
  have h3 : (2 : Nat) ^ (n + 1) = 2 * 2 ^ n := by
    rw [Nat.pow_succ]
    omega
  rw [h3]
  generalize (2 : Nat) ^ n = z at h h2
  omega
end Ld
namespace K28
open PySem L2 Ld PyProof.Rows
abbrev sStream : Stmt := top 31
abbrev sDraw : Stmt := top 32
abbrev sChoose : Stmt := top 33
section
variable {P : Program} {w : World} {K : PySem.W.Frag} {mg : Str → Option Value} {base : Heap} {f : Addr} {fd : FuncData}
def spStream (K : PySem.W.Frag) : Sp := fun vs H Q _ => ∃ (a : Addr) (ns : List Int) (j : Int) (B : Nat), vs = [.ref a, .int j] ∧ SqL K H a (ns.map V.int) ∧ ns.length ≤ 63 ∧ 60 ≤ B ∧ B ≤ 2000000 ∧ (∀ z ∈ ns, Builtin.Int.intBits z ≤ B) ∧ 0 ≤ j ∧ j < 100 ∧
  ∀ wa H', H wa = none → Sm H' wa → Same H H' → Q (.ref wa) H'
def strN : List Str := ["_law_script", "_law_start", "_law_seed", "_law_cell", "_law_digits"]
theorem scStream : FnScope strN ["_law_script", "_law_start"] (defScope sStream) := ⟨rfl, rfl, rfl, by decide +kernel, rfl, by decide +kernel, by decide +kernel⟩
theorem ok_stream (Fd : Fun K "_law_stream" "_law_stream" sStream f fd) (T : Tx mg) : FnOk P w K mg base CX0 1 f fd ["_law_script", "_law_start"] (spStream K) := by
  refine Fd.ok scStream (fun vs H Q E h => ?_) (fun cdv A outer s H vs Q E hr h => ?_)
  · obtain ⟨a, ns, j, B, rfl, _⟩ := h
    rfl
  · obtain ⟨a, ns, j, B, rfl, hS, hlen, hB, hB2, hb, hj0, hj, q⟩ := h
    have nd := scStream.nd
    refine ⟨_, pss_cons (ps_set (i := 2) nd rfl (Or.inl rfl) (pe_op op_add pe_int (pv 1)))
      (pss_cons (ps_for PassesOwn.never rfl (pi_list (pv 0)) (pg_name (i := 3) nd rfl (Or.inl rfl))
        (pss_one (ps_set (i := 2) nd rfl (Or.inl rfl) (pe_op op_add (pe_op op_mod (pe_callTy call_int1 (by rfl) T.int (by decide +kernel) (pa_cons (pe_op op_powB (pe_op op_add (pe_op op_mulB (pv 2) pe_int) (pe_callTy call_int1 (by rfl) T.int (by decide +kernel) (pa_cons (pv 3) pa_nil))) pe_int) pa_nil)) pe_int) pe_int))))
      (pss_cons (ps_set (i := 4) nd rfl (Or.inl rfl) pe_int)
      (pss_cons (ps_if (PW.pt (pw_and (pt_cmpR op_lt (pv 1) (pe_callB call_len_seq (by rfl) T.len PySem.boot_len (pa_cons (pv 0) pa_nil)) (nomark _))
          (pw_and1 (pt_cmpR op_ge (pe_ix ix_list (pv 0) (pv 1) (fun _ _ => rfl)) (pe_op op_pow pe_int pe_int) (nomark _)))))
          (pss_one (ps_set (i := 4) nd rfl (Or.inl rfl) (pe_op op_sub (pe_ix ix_list (pv 0) (pv 1) (fun _ _ => rfl)) (pe_op op_pow pe_int pe_int)))) pss_nil)
      (pss_one (ps_ret (pe_lst (pa_cons (pv 4) (pa_cons (pv 2) pa_nil)))))))), ?_⟩
    refine ⟨_, rfl, _, _, rfl, rfl, ?_⟩
    refine ⟨_, rfl, a, rfl, ⟨_, hS⟩, for_list (K := K) (a := a) (xs := ns.map V.int) (fun i σ H2 => H2 = H ∧ ∃ (m : Int) (u : Option V), σ = [some (.ref a), some (.int j), some (.int m), u, none] ∧ 0 ≤ m ∧ m < 2 ^ 40)
      ⟨rfl, _, none, rfl, by omega, by omega⟩ (fun i σ H2 _ h => by rw [h.1]; exact hS) ?_ ?_⟩
    · rintro i y σ H2 hi ⟨rfl, m, u, rfl, h0, h1⟩
      obtain ⟨z, hz, rfl⟩ := list_get hi
      have bz := hb z (List.mem_of_getElem? hz)
      have hm := mul_small (c := 40127) h0 h1 (by decide) (by decide)
      have hw := cube_wide (of_bits bz) hm hB
      have hbw := bits_of hw
      refine ⟨_, rfl, _, _, rfl, rfl, ?_, _, rfl, .inl ⟨_, rfl, _, _, rfl, rfl, _, _, rfl, rfl, ?_, .inl ⟨_, rfl, _, _, rfl, rfl, (show (0 : Int) < 2147483629 by decide), _, _, rfl, rfl, ?_⟩⟩⟩
      · have := bits_small h0 h1
        show Builtin.Int.intBits m + Builtin.Int.intBits 40127 ≤ 2 ^ 27
        have e : Builtin.Int.intBits 40127 ≤ 17 := by decide +kernel
        omega
      · refine ⟨by decide, ?_⟩
        omega
      · refine ⟨rfl, _, _, rfl, ?_, ?_⟩
        · have := Int.emod_nonneg ((m * 40127 + z) ^ (3 : Int).toNat) (show (2147483629 : Int) ≠ 0 by decide)
          omega
        · have := Int.emod_lt_of_pos ((m * 40127 + z) ^ (3 : Int).toNat) (show (0 : Int) < 2147483629 by decide)
          omega
    · rintro σ H2 ⟨rfl, m, u, rfl, h0, h1⟩
      have last : ∀ dg : Int, 0 ≤ dg → ∀ p, H2 p = none → Q (.ref p) (upd H2 p (.lst [.int dg, .int m])) := fun dg hd p hp => q p _ hp ⟨dg, m, upd_same, hd, h0, h1⟩ (Same.new hp)
      refine ⟨_, rfl, _, rfl, a, _, rfl, .inl hS, _, _, rfl, rfl, _, rfl, ?_⟩
      by_cases hjl : j < (((ns.map V.int).length : Nat) : Int)
      · rw [decide_eq_true hjl]
        rw [List.length_map] at hjl
        obtain ⟨z, hz⟩ : ∃ z, ns[j.toNat]? = some z := ⟨ns[j.toNat]'(by omega), List.getElem?_eq_getElem _⟩
        have hat : atI (ns.map V.int) j = some (.int z) := at_of (j := j.toNat) (by omega) (by rw [List.getElem?_map, hz]; rfl)
        have cp : CPow 10 18 := ⟨by decide, by decide, by decide⟩
        refine iteT ⟨_, rfl, _, rfl, a, _, _, _, rfl, rfl, hS, hat, _, _, rfl, rfl, cp, _, _, rfl, rfl, _, rfl, ?_⟩
        by_cases hz2 : (10 : Int) ^ (18 : Int).toNat ≤ z
        · rw [decide_eq_true hz2]
          exact iteT ⟨_, rfl, _, rfl, a, _, _, _, rfl, rfl, hS, hat, _, _, rfl, rfl, cp, _, _, rfl, rfl, _, rfl, _, rfl, (show 2 ≤ sizeLine by decide), last _ (by omega)⟩
        · rw [decide_eq_false hz2]
          exact iteF ⟨_, rfl, _, rfl, (show 2 ≤ sizeLine by decide), last 0 (by decide)⟩
      · rw [decide_eq_false hjl]
        exact iteF ⟨_, rfl, _, rfl, (show 2 ≤ sizeLine by decide), last 0 (by decide)⟩
def spDraw : Sp := fun vs H Q _ => ∃ (wa : Addr) (n : Int), vs = [.ref wa, .int n] ∧ Sm H wa ∧ 0 < n ∧ n < 1073741824 ∧ ∀ (k : Int) H', 0 ≤ k → k < n → Sm H' wa → Sb wa H H' → Q (.int k) H'
theorem scDraw : FnScope ["_law_stream_here", "_law_size", "_law_found"] ["_law_stream_here", "_law_size"] (defScope sDraw) := ⟨rfl, rfl, rfl, by decide +kernel, rfl, by decide +kernel, by decide +kernel⟩
theorem ok_draw (Fd : Fun K "_law_draw" "_law_draw" sDraw f fd) (T : Tx mg) : FnOk P w K mg base CX0 1 f fd ["_law_stream_here", "_law_size"] spDraw := by
  refine Fd.ok scDraw (fun vs H Q E h => ?_) (fun cdv A outer s H vs Q E hr h => ?_)
  · obtain ⟨wa, n, rfl, _⟩ := h
    rfl
  · obtain ⟨wa, n, rfl, ⟨d, m, hw, hd, hm0, hm1⟩, hn0, hn1, q⟩ := h
    refine ⟨_, pss_cons (ps_if (pt_cmpR op_ge (pe_ix ix_list (pv 0) pe_int (fun _ _ => rfl)) (pv 1) (nomark _))
        (pss_cons (ps_set (i := 2) scDraw.nd rfl (Or.inl rfl) (pe_op op_mod (pe_callTy call_int1 (by rfl) T.int (by decide +kernel) (pa_cons (pe_ix ix_list (pv 0) pe_int (fun _ _ => rfl)) pa_nil)) (pv 1)))
        (pss_cons (ps_asg (pe_op op_fdiv (pe_ix ix_list (pv 0) pe_int (fun _ _ => rfl)) (pv 1)) (pg_sub (pv 0) pe_int set_list))
        (pss_one (ps_ret (pv 2))))) pss_nil)
      (pss_cons (ps_asg (pe_op op_mod (pe_op op_add (pe_op op_mul (pe_callTy call_int1 (by rfl) T.int (by decide +kernel) (pa_cons (pe_ix ix_list (pv 0) pe_int (fun _ _ => rfl)) pa_nil)) pe_int) pe_int) pe_int) (pg_sub (pv 0) pe_int set_list))
      (pss_one (ps_ret (pe_op op_mod (pe_callTy call_int1 (by rfl) T.int (by decide +kernel) (pa_cons (pe_op op_fdiv (pe_op op_mod (pe_op op_pow (pe_op op_mod (pe_op op_pow (pe_callTy call_int1 (by rfl) T.int (by decide +kernel) (pa_cons (pe_ix ix_list (pv 0) pe_int (fun _ _ => rfl)) pa_nil)) pe_int) pe_int) pe_int) pe_int) pe_int) pa_nil)) (pv 1))))), ?_⟩
    have hL : SqL K H wa [.int d, .int m] := .of hw
    refine ⟨_, rfl, wa, _, _, _, rfl, rfl, hL, at_of (j := 0) rfl rfl, _, rfl, _, _, rfl, rfl, _, rfl, ?_⟩
    by_cases hdn : n ≤ d
    · rw [decide_eq_true hdn]
      refine iteT ⟨_, rfl, wa, _, _, _, rfl, rfl, hL, at_of (j := 0) rfl rfl, .inl ⟨_, rfl, _, rfl, _, _, rfl, rfl, hn0, ?_⟩⟩
      refine ⟨_, rfl, wa, _, _, _, rfl, rfl, hL, at_of (j := 0) rfl rfl, _, rfl, _, _, rfl, rfl, ⟨hn0, hn1⟩, ?_⟩
      refine ⟨_, rfl, wa, _, 0, 0, rfl, rfl, hw, rfl, _, rfl, ?_⟩
      exact q _ _ (Int.emod_nonneg _ (by omega)) (Int.emod_lt_of_pos _ hn0) ⟨_, m, upd_same, Int.ediv_nonneg hd (by omega), hm0, hm1⟩ (.put wa H _)
    · rw [decide_eq_false hdn]
      have m0 := Int.emod_nonneg (m * 48271 + 12345) (show (2147483647 : Int) ≠ 0 by decide)
      have m1 := Int.emod_lt_of_pos (m * 48271 + 12345) (show (0 : Int) < 2147483647 by decide)
      refine iteF ⟨_, rfl, wa, _, _, _, rfl, rfl, hL, at_of (j := 1) rfl rfl, .inl ⟨_, rfl, _, _, rfl, rfl, .inr ⟨by decide, by decide⟩, _, _, rfl, rfl, _, _, rfl, rfl, (show (0 : Int) < 2147483647 by decide), ?_⟩⟩
      refine ⟨_, rfl, wa, _, 1, 1, rfl, rfl, hw, rfl, ?_⟩
      change (_ : Hp → Prop) (upd H wa (.lst [V.int d, V.int ((m * 48271 + 12345) % 2147483647)]))
      generalize (m * 48271 + 12345) % 2147483647 = m' at m0 m1 ⊢
      have k2 : (upd H wa (.lst [V.int d, V.int m'])) wa = some (.lst [.int d, .int m']) := upd_same
      have sP : Sb wa H (upd H wa (.lst [V.int d, V.int m'])) := .put wa H _
      generalize upd H wa (.lst [V.int d, V.int m']) = G at k2 sP ⊢
      have n0 := Int.emod_nonneg (m' ^ (3 : Int).toNat) (show (2147483629 : Int) ≠ 0 by decide)
      have n1 := Int.emod_lt_of_pos (m' ^ (3 : Int).toNat) (show (0 : Int) < 2147483629 by decide)
      refine ⟨_, rfl, wa, _, _, _, rfl, rfl, .of k2, at_of (j := 1) rfl rfl, .inl ⟨_, rfl, _, _, rfl, rfl, ⟨by decide, by decide, by omega⟩, _, _, rfl, rfl, (show (0 : Int) < 2147483629 by decide), ?_⟩⟩
      generalize m' ^ (3 : Int).toNat % 2147483629 = k at n0 n1 ⊢
      refine ⟨_, _, rfl, rfl, ⟨by decide, by decide, by omega⟩, _, _, rfl, rfl, (show (0 : Int) < 1000000007 by decide), _, _, rfl, rfl, ⟨by decide, by decide⟩, .inl ⟨_, rfl, _, rfl, _, _, rfl, rfl, hn0, ?_⟩⟩
      exact q _ _ (Int.emod_nonneg _ (by omega)) (Int.emod_lt_of_pos _ hn0) ⟨d, m', k2, hd, m0, by omega⟩ sP
/-- a list of things of which none is a number, at least not two of them -/
def spChoose (K : PySem.W.Frag) : Sp := fun vs H Q _ => ∃ (wa la : Addr) (xs : List V), vs = [.ref wa, .ref la] ∧ Sm H wa ∧ SqL K H la xs ∧ NotSm (.lst xs) ∧ xs ≠ [] ∧ xs.length ≤ 1000 ∧ ∀ v H', v ∈ xs → Sm H' wa → Sb wa H H' → Q v H'
theorem scChoose : FnScope ["_law_stream_here", "_law_items"] ["_law_stream_here", "_law_items"] (defScope sChoose) := ⟨rfl, rfl, rfl, by decide +kernel, rfl, by decide +kernel, by decide +kernel⟩
theorem ok_choose (Fd : Fun K "_law_choose" "_law_choose" sChoose f fd) (T : Tx mg) (D : Df P w K mg base 1 "_law_draw" ["_law_stream_here", "_law_size"] spDraw) : FnOk P w K mg base CX0 2 f fd ["_law_stream_here", "_law_items"] (spChoose K) := by
  refine Fd.ok scChoose (fun vs H Q E h => ?_) (fun cdv A outer s H vs Q E hr h => ?_)
  · obtain ⟨wa, la, xs, rfl, _⟩ := h
    rfl
  · obtain ⟨wa, la, xs, rfl, hw, hS, hno, hne, hlen, q⟩ := h
    refine ⟨_, pss_one (ps_ret (pe_ix ix_list (pv 1) (pe_df D hr (pa_cons (pv 0) (pa_cons (pe_callB call_len_seq (by rfl) T.len PySem.boot_len (pa_cons (pv 1) pa_nil)) pa_nil))) (fun _ _ => rfl))), ?_⟩
    have hl : 0 < xs.length := List.length_pos_iff.mpr hne
    refine ⟨_, rfl, _, rfl, _, rfl, la, xs, rfl, .inl hS, wa, _, rfl, hw, by omega, by omega, fun k H' h0 h1 W' s' => ?_⟩
    obtain ⟨v, hv⟩ : ∃ v, xs[k.toNat]? = some v := ⟨xs[k.toNat]'(by omega), List.getElem?_eq_getElem _⟩
    exact ⟨la, xs, _, v, rfl, rfl, smL hw s' hno hS, at_of (j := k.toNat) (by omega) hv, q v H' (List.mem_of_getElem? hv) W' s'⟩
end
end K28
/-! Data of any kind against a text. -/
namespace Ld
namespace EQ
open PySem PySem.Builtin PyProof.Rows PySem.SeqAt PySem.MeetsSeq
section
variable {A : Around} {s : Shared}
theorem dict_declines_str (l : Addr) (es : Array DictEntry) (ep : Nat) (dd : Option Addr) (sl : Array (Option Value)) (b : Str) (u : Tok) :
    Meets (Builtin.«dict.__eq__» ⟨[.ref l, .str b u], []⟩) (fun _ R s => s.heap.get? l = some { cls := .type "dict", dict := dd, data := .dict es ep, slots := sl } ∧ R (.ok (.ret .notImplemented)) s) :=
  .of_wp fun prog w A R s h => by obtain ⟨hp, g, d, tk, os⟩ := s; obtain ⟨hl, h⟩ := h; have f1 := F.sub_str_dict; wp_walk using wpAny_loadPart' hl; exact ⟨_, rfl, h⟩
theorem str_declines_dict (b : Str) (u : Tok) (l : Addr) (es : Array DictEntry) (ep : Nat) (dd : Option Addr) (sl : Array (Option Value)) :
    Meets (Builtin.«str.__eq__» ⟨[.str b u, .ref l], []⟩) (fun _ R s => s.heap.get? l = some { cls := .type "dict", dict := dd, data := .dict es ep, slots := sl } ∧ R (.ok (.ret .notImplemented)) s) :=
  .of_wp fun prog w A R s h => by obtain ⟨hp, g, d, tk, os⟩ := s; obtain ⟨hl, h⟩ := h; wp_walk using wpAny_loadPart' hl, wpAny_load hl; exact ⟨_, rfl, h⟩
theorem rc_dict_str {l : Addr} {es : Array DictEntry} {ep : Nat} {dd : Option Addr} {sl : Array (Option Value)} (b : Str) (u : Tok) (ho : s.heap.get? l = some { cls := .type "dict", dict := dd, data := .dict es ep, slots := sl }) (hu : A.units < cLine) : RcAt A s (.ref l) (.str b u) false := fun prog w E Q h => by
  exact rc_eq_decline_or (k := false) ⟨_, ho, rfl⟩ (typeIs_str s b u) (by decide) F.sub_str_dict F.slot_dict_eq F.slot_str_eq_refl
    (fun _ hq => call_meets F.slot_dict_eq ⟨_, ho, rfl⟩ F.entry_dict_eq (F.args_dict_eq_2 _ _) (dict_declines_str l es ep dd sl b u) ⟨ho, hq⟩)
    (fun _ hq => call_meets F.slot_str_eq_refl (typeIs_str s b u) F.entry_str_eq (F.args_str_eq_2 _ _) (str_declines_dict b u l es ep dd sl) ⟨ho, hq⟩)
    (fun _ hq => wpAny_of_eq (rfl : isSame (.ref l) (.str b u) = pure false) hq) (.inr hu) h
end
end EQ
end Ld
namespace Ld
open PySem L2 PyProof.Rows
def txtD : PyData → Str → Bool
  | .str x, z => decide (x = z)
  | _, _ => false
/-- any data == a text -/
def rEqTx (K : PySem.W.Frag) : R2 := fun x y H Q => ∃ d z, Dd K H x d ∧ y = .str z ∧ Q (.bl (txtD d z)) H
theorem op_eqTx {X : Cx} (hu : X.A.units < cLine) : OpR X (compareOp .Eq) (rEqTx X.K) := by
  intro pins s σ H x y v u Q I rx ry h
  obtain ⟨d, z, hd, rfl, q⟩ := h
  have flat : ∀ b : Bool, flatV x = true → (decide (x = V.str z)) = b → txtD d z = b → EP X pins σ Q (.bool b) s := fun b _ _ e => by
    rw [e] at q
    exact ⟨.bl b, H, I, rfl, q⟩
  cases hd with
  | non => exact op_eq pins s σ H _ _ v u Q I rx ry ⟨rfl, q⟩
  | bl b => exact op_eq pins s σ H _ _ v u Q I rx ry ⟨rfl, q⟩
  | int i => exact op_eq pins s σ H _ _ v u Q I rx ry ⟨rfl, q⟩
  | str x0 =>
    refine op_eq pins s σ H _ _ v u Q I rx ry ⟨rfl, ?_⟩
    have e : decide (V.str x0 = V.str z) = txtD (.str x0) z := by
      show decide (V.str x0 = V.str z) = decide (x0 = z)
      by_cases h : x0 = z
      · subst h
        simp
      · have : ¬ V.str x0 = V.str z := fun e => h (V.str.inj e)
        rw [decide_eq_false this, decide_eq_false h]
    rw [e]
    exact q
  | lst hs _ _ =>
    cases rx
    obtain ⟨t, rfl⟩ := ry
    obtain ⟨its, r, ht, hz⟩ := I.list hs
    exact SeqAt.RcAt.list_str z t ht.isList hu X.prog X.w X.xe _ ⟨.bl false, H, I, rfl, q⟩
  | tup hs _ =>
    cases rx
    obtain ⟨t, rfl⟩ := ry
    obtain ⟨its, r, ht, hz⟩ := I.tuple hs
    exact SeqAt.RcAt.tuple_str z t ht hu X.prog X.w X.xe _ ⟨.bl false, H, I, rfl, q⟩
  | dct hk _ _ =>
    cases rx
    obtain ⟨t, rfl⟩ := ry
    obtain ⟨_, hm, vs, kvr, o, es, ep, e1, e2, e3, _⟩ := dk_of I.hok hk
    obtain ⟨oc, od, odt, osl⟩ := o
    dsimp only at e2 e3
    subst e3
    obtain ⟨e4, e5⟩ := e2
    dsimp only at e4
    subst e4
    exact EQ.rc_dict_str z t e1 hu X.prog X.w X.xe _ ⟨.bl false, H, I, rfl, q⟩
end Ld
namespace K28
open PySem L2 Ld
abbrev sRule : Stmt := top 20
abbrev sAnswer : Stmt := top 21
/-! ### what is a rule, over data -/
mutual
/-- all texts are short and plain, all tuples short -/
def fitB : PyData → Bool
  | .str z => ascB z
  | .tuple ds => decide (ds.length ≤ 1000) && fitAll ds
  | .list ds => fitAll ds
  | _ => true
def fitAll : List PyData → Bool
  | [] => true
  | d :: ds => fitB d && fitAll ds
end
theorem fitAll_mem : ∀ {ds : List PyData}, fitAll ds = true → ∀ d ∈ ds, fitB d = true
  | [], _, d, h => nomatch h
  | e :: ds, z, d, h => by
    have z2 := Bool.and_eq_true_iff.mp (show (fitB e && fitAll ds) = true from z)
    rcases List.mem_cons.mp h with h | h
    · rw [h]
      exact z2.1
    · exact fitAll_mem z2.2 d h
theorem fitS_of {d : PyData} (h : fitB d = true) : FitS d := fun z e => by
  subst e
  exact asc_of h
theorem fits_of {d : PyData} (h : fitB d = true) : Fits d := ⟨fitS_of h, fun ds e => by
  subst e
  have z := Bool.and_eq_true_iff.mp (show (decide (ds.length ≤ 1000) && fitAll ds) = true from h)
  exact ⟨Nat.le_trans (of_decide_eq_true z.1) (by decide), fun e he => fitS_of (fitAll_mem z.2 e he)⟩⟩
theorem fit_mem {ds : List PyData} (h : fitB (.tuple ds) = true) : ∀ d ∈ ds, fitB d = true := fitAll_mem (Bool.and_eq_true_iff.mp (show (decide (ds.length ≤ 1000) && fitAll ds) = true from h)).2
def toD : List PyData → Bool
  | [p, n] => placeD p && numD 10000 n
  | _ => false
def ownD : List PyData → Bool
  | [x] => wordD x
  | _ => false
def answerD (own : Str) : PyData → Bool
  | .tuple (k :: r) => if txtD k "gone" = true then r.isEmpty else if txtD k "to" = true then toD r else txtD k own && ownD r
  | _ => false
theorem answerD_cons (own : Str) (k : PyData) (r : List PyData) : answerD own (.tuple (k :: r)) = if txtD k "gone" = true then r.isEmpty else if txtD k "to" = true then toD r else txtD k own && ownD r := rfl
def ruleT (s p a : PyData) : Bool := match s with
  | .str z => (decide (z = "exact") && (placeD p && answerD "page" a)) || (decide (z = "open") && (placeD p && answerD "section" a))
  | _ => false
def ruleL : List PyData → Bool
  | [s, p, a] => ruleT s p a
  | _ => false
def ruleD : PyData → Bool
  | .tuple ds => ruleL ds
  | _ => false
section
variable {P : Program} {w : World} {K : PySem.W.Frag} {mg : Str → Option Value} {base : Heap} {f : Addr} {fd : FuncData}
def spAnswer (K : PySem.W.Frag) : Sp := fun vs H Q _ => ∃ (v : V) (d : PyData) (own : Str), vs = [v, .str own] ∧ Dd K H v d ∧ fitB d = true ∧ Q (.bl (answerD own d)) H
theorem scAn : FnScope ["value", "own_kind", "kind"] ["value", "own_kind"] (defScope sAnswer) := ⟨rfl, rfl, rfl, by decide +kernel, rfl, by decide +kernel, by decide +kernel⟩
theorem at0 {x : V} {xs : List V} : atI (x :: xs) 0 = some x := at_of (j := 0) rfl rfl
theorem at1 {x y : V} {xs : List V} : atI (x :: y :: xs) 1 = some y := at_of (j := 1) rfl rfl
theorem at2 {x y z : V} {xs : List V} : atI (x :: y :: z :: xs) 2 = some z := at_of (j := 2) rfl rfl
theorem len_is {xs : List V} {n : Nat} : decide (V.int (xs.length : Int) = V.int (n : Int)) = decide (xs.length = n) := by
  by_cases h : xs.length = n
  · rw [h]
    simp
  · rw [decide_eq_false h, decide_eq_false (fun e => h (by injection e with e; omega))]
theorem ok_answer (Fd : Fun K "_is_answer" "_is_answer" sAnswer f fd) (T : Tx mg) (DN : Df P w K mg base 1 "is_number_to" ["value", "highest"] (spNum K)) (DW : Df P w K mg base 1 "is_word" ["value"] (spWord K)) (DP : Df P w K mg base 3 "is_place" ["value"] (spPlace K)) :
    FnOk P w K mg base CX0 4 f fd ["value", "own_kind"] (spAnswer K) := by
  refine Fd.ok scAn (fun vs H Q E h => ?_) (fun cdv A outer s H vs Q E hr h => ?_)
  · obtain ⟨v, d, own, rfl, _⟩ := h
    rfl
  · obtain ⟨v, d, own, rfl, hT, hf, q⟩ := h
    obtain ⟨t, hl⟩ := T.md
    have hu := Nat.lt_of_le_of_lt (Nat.le_add_right _ 64) hr.units
    refine ⟨_, pss_cons (ps_if (PW.pt (pw_or (pt_not (pt_val (pe_callB (call_isa "tuple") (by rfl) T.isi bootN (pa_cons (pv 0) (pa_cons (pe_bltn (v := .ty "tuple") (by rfl) T.tuple (by decide +kernel) rfl) pa_nil)))))
        (pw_or1 (pt_not (pt_truth (pv 0) (fun _ => rfl)))))) (pss_one (ps_ret pe_bl)) pss_nil)
      (pss_cons (ps_set (i := 2) scAn.nd rfl (Or.inl rfl) (pe_ix ix_tup (pv 0) pe_int (fun _ _ => rfl)))
      (pss_cons (ps_if (pt_cmpR (op_eqTx hu) (pv 2) pe_str (nomark _)) (pss_one (ps_ret (pe_cmpR op_eq (pe_callB call_len_seq (by rfl) T.len PySem.boot_len (pa_cons (pv 0) pa_nil)) pe_int (nomark _)))) pss_nil)
      (pss_cons (ps_if (pt_cmpR (op_eqTx hu) (pv 2) pe_str (nomark _)) (pss_one (ps_ret (pe_and (pe_cmpR op_eq (pe_callB call_len_seq (by rfl) T.len PySem.boot_len (pa_cons (pv 0) pa_nil)) pe_int (nomark _))
          (pe_and (pe_df DP hr (pa_cons (pe_ix ix_tup (pv 0) pe_int (fun _ _ => rfl)) pa_nil)) (pe_one (pe_df DN hr (pa_cons (pe_ix ix_tup (pv 0) pe_int (fun _ _ => rfl)) (pa_cons (pe_glob (v := .int 10000) (by rfl) hl ⟨_, rfl⟩) pa_nil)))))))) pss_nil)
      (pss_one (ps_ret (pe_and (pe_cmpR (op_eqTx hu) (pv 2) (pv 1) (nomark _)) (pe_and (pe_cmpR op_eq (pe_callB call_len_seq (by rfl) T.len PySem.boot_len (pa_cons (pv 0) pa_nil)) pe_int (nomark _))
          (pe_one (pe_df DW hr (pa_cons (pe_ix ix_tup (pv 0) pe_int (fun _ _ => rfl)) pa_nil)))))))))), ?_⟩
    refine ⟨_, rfl, _, rfl, _, _, hT.ty, kit_tuple d, _, rfl, ?_⟩
    cases d with
    | tuple ds =>
      obtain ⟨a, xs, rfl, hs, hl2, hi⟩ := hT.its
      have hfm := fit_mem hf
      refine iteF ⟨_, rfl, _, .inr (.inl ⟨xs, hs, rfl⟩), ?_⟩
      cases ds with
      | nil =>
        have e := List.length_eq_zero_iff.mp hl2
        subst e
        exact iteT q
      | cons k r =>
        cases xs with
        | nil => cases hl2
        | cons x xr =>
          obtain ⟨d0, z0, D0⟩ := hi 0 x rfl
          cases z0
          refine iteF ⟨_, rfl, a, _, _, _, rfl, rfl, hs, at0, ?_⟩
          rw [answerD_cons] at q
          refine ⟨_, rfl, k, _, D0, rfl, _, rfl, ?_⟩
          by_cases g : txtD k "gone" = true
          · rw [if_pos g] at q
            rw [g]
            refine iteT ⟨_, rfl, a, _, rfl, .inr hs, rfl, ?_⟩
            show Q (.bl (decide (V.int ((x :: xr).length : Int) = V.int ((1 : Nat) : Int)))) H
            rw [len_is, hl2]
            cases r with
            | nil => exact q
            | cons _ _ => 
              rw [decide_eq_false (by simp)]
              exact q
          · rw [if_neg g] at q
            rw [Bool.eq_false_iff.mpr g]
            refine iteF ⟨_, rfl, k, _, D0, rfl, _, rfl, ?_⟩
            by_cases g2 : txtD k "to" = true
            · rw [if_pos g2] at q
              rw [g2]
              refine iteT ⟨_, rfl, a, _, rfl, .inr hs, rfl, _, rfl, ?_⟩
              show if (decide (V.int ((x :: xr).length : Int) = V.int ((3 : Nat) : Int))) = true then _ else _
              rw [len_is, hl2]
              have no : toD r = false → Q (.bl false) H := fun e => by
                rw [e] at q
                exact q
              match r, hl2, hi, hfm, q, no with
              | [], _, _, _, _, no => exact iteF (no rfl)
              | [p], _, _, _, _, no => exact iteF (no rfl)
              | [p, n], hl2, hi, hfm, q, _ =>
                match xr, hl2, hi with
                | [y, z], _, hi =>
                  obtain ⟨d1, z1, D1⟩ := hi 1 y rfl
                  cases z1
                  obtain ⟨d2, z2, D2⟩ := hi 2 z rfl
                  cases z2
                  refine iteT ⟨_, rfl, a, _, _, _, rfl, rfl, hs, at1, _, p, rfl, D1, fits_of (hfm _ (by simp)), _, rfl, ?_⟩
                  have q : Q (.bl (placeD p && numD 10000 n)) H := q
                  cases e : placeD p with
                  | false =>
                    rw [e] at q
                    exact iteF q
                  | true =>
                    rw [e] at q
                    exact iteT ⟨_, rfl, a, _, _, _, rfl, rfl, hs, at2, _, n, _, rfl, D2, q⟩
              | p :: n :: m :: r2, _, _, _, _, no =>
                rw [decide_eq_false (by simp)]
                exact iteF (no rfl)
            · rw [if_neg g2] at q
              rw [Bool.eq_false_iff.mpr g2]
              refine iteF ⟨_, rfl, _, rfl, k, _, D0, rfl, _, rfl, ?_⟩
              cases g3 : txtD k own with
              | false =>
                rw [g3] at q
                exact iteF q
              | true =>
                rw [g3] at q
                refine iteT ⟨_, rfl, a, _, rfl, .inr hs, rfl, _, rfl, ?_⟩
                show if (decide (V.int ((x :: xr).length : Int) = V.int ((2 : Nat) : Int))) = true then _ else _
                rw [len_is, hl2]
                have no : ownD r = false → Q (.bl false) H := fun e => by
                  rw [e] at q
                  exact q
                match r, hl2, hi, hfm, q, no with
                | [], _, _, _, _, no => exact iteF (no rfl)
                | [p], hl2, hi, hfm, q, _ =>
                  match xr, hl2, hi with
                  | [y], _, hi =>
                    obtain ⟨d1, z1, D1⟩ := hi 1 y rfl
                    cases z1
                    exact iteT ⟨_, rfl, a, _, _, _, rfl, rfl, hs, at1, _, p, rfl, D1, fitS_of (hfm _ (by simp)), q⟩
                | p :: n :: r2, _, _, _, _, no =>
                  rw [decide_eq_false (by simp)]
                  exact iteF (no rfl)
    | _ => exact iteT q
end
end K28
namespace K28
open PySem L2 Ld
/-- the two kinds, as the module holds them -/
structure Kinds (K : PySem.W.Frag) (w : World) (mg : Str → Option Value) (d : Addr) (es : Array DictEntry) (n : Nat) : Prop where
  at_ : mg "OWN_KINDS" = some (.ref d)
  kd : KDict K w d es n
  two : ∃ (e1 e2 : DictEntry) (t1 t2 u1 u2 : Tok), es.toList = [e1, e2] ∧ e1.key = .str "exact" t1 ∧ e1.val = .str "page" u1 ∧ e2.key = .str "open" t2 ∧ e2.val = .str "section" u2
theorem isStr_lit {x z : Str} {t : Tok} : (Value.str x t).isStr z = decide (z = x) := by
  show (x == z) = decide (z = x)
  by_cases h : z = x
  · subst h
    simp
  · rw [decide_eq_false h]
    exact beq_false_of_ne fun e => h e.symm
theorem open_exact : ¬ (("open" : Str) = "exact") := by decide +kernel
theorem exact_open : ¬ (("exact" : Str) = "open") := by decide +kernel
theorem ruleT_exact (p a : PyData) : ruleT (.str "exact") p a = (placeD p && answerD "page" a) := by
  show ((decide (("exact" : Str) = "exact") && (placeD p && answerD "page" a)) || (decide (("exact" : Str) = "open") && (placeD p && answerD "section" a))) = _
  rw [decide_eq_false exact_open, Bool.false_and, Bool.or_false, decide_eq_true rfl, Bool.true_and]
theorem ruleT_open (p a : PyData) : ruleT (.str "open") p a = (placeD p && answerD "section" a) := by
  show ((decide (("open" : Str) = "exact") && (placeD p && answerD "page" a)) || (decide (("open" : Str) = "open") && (placeD p && answerD "section" a))) = _
  rw [decide_eq_false open_exact, Bool.false_and, Bool.false_or, decide_eq_true rfl, Bool.true_and]
theorem ruleT_none {s : Str} (h1 : ¬ s = "exact") (h2 : ¬ s = "open") (p a : PyData) : ruleT (.str s) p a = false := by
  show ((decide (s = "exact") && (placeD p && answerD "page" a)) || (decide (s = "open") && (placeD p && answerD "section" a))) = _
  rw [decide_eq_false h1, decide_eq_false h2]
  rfl
theorem Kinds.get {K : PySem.W.Frag} {w : World} {mg : Str → Option Value} {d : Addr} {es : Array DictEntry} {n : Nat} (Z : Kinds K w mg d es n) : ∃ u1 u2 : Tok, ∀ z : Str, PySem.W.nsIn K d z = if z = "exact" then some (some (.str "page" u1)) else if z = "open" then some (some (.str "section" u2)) else some none := by
  obtain ⟨e1, e2, t1, t2, u1, u2, he, k1, v1, k2, v2⟩ := Z.two
  refine ⟨u1, u2, fun z => ?_⟩
  unfold PySem.W.nsIn
  rw [Z.kd.at_]
  dsimp only
  rw [he]
  have s1 : e1.key.isStr z = decide (z = "exact") := by
    rw [k1]
    exact isStr_lit
  have s2 : e2.key.isStr z = decide (z = "open") := by
    rw [k2]
    exact isStr_lit
  have r1 : [e1, e2].any (·.refKey) = false := by
    simp [DictEntry.refKey, k1, k2]
  simp only [List.find?, s1, s2]
  by_cases h1 : z = "exact"
  · simp [h1, v1]
  · by_cases h2 : z = "open"
    · have n := open_exact
      simp [h2, v2, n]
    · simp [h1, h2, r1]
section
variable {P : Program} {w : World} {K : PySem.W.Frag} {mg : Str → Option Value} {base : Heap} {f : Addr} {fd : FuncData} {kd : Addr} {es : Array DictEntry} {kn : Nat}
def spRule (K : PySem.W.Frag) : Sp := fun vs H Q _ => ∃ (v : V) (d : PyData), vs = [v] ∧ Dd K H v d ∧ fitB d = true ∧ Q (.bl (ruleD d)) H
theorem scRu : FnScope ["value", "sort", "place", "answer"] ["value"] (defScope sRule) := ⟨rfl, rfl, rfl, by decide +kernel, rfl, by decide +kernel, by decide +kernel⟩
theorem ok_rule (Fd : Fun K "is_rule" "is_rule" sRule f fd) (T : Tx mg) (Z : Kinds K w mg kd es kn) (DP : Df P w K mg base 3 "is_place" ["value"] (spPlace K)) (DA : Df P w K mg base 4 "_is_answer" ["value", "own_kind"] (spAnswer K)) :
    FnOk P w K mg base CX0 5 f fd ["value"] (spRule K) := by
  refine Fd.ok scRu (fun vs H Q E h => ?_) (fun cdv A outer s H vs Q E hr h => ?_)
  · obtain ⟨v, d, rfl, _⟩ := h
    rfl
  · obtain ⟨v, d, rfl, hT, hf, q⟩ := h
    obtain ⟨u1, u2, hget⟩ := Z.get
    refine ⟨_, pss_cons (ps_if (PW.pt (pw_or (pt_not (pt_val (pe_callB (call_isa "tuple") (by rfl) T.isi bootN (pa_cons (pv 0) (pa_cons (pe_bltn (v := .ty "tuple") (by rfl) T.tuple (by decide +kernel) rfl) pa_nil)))))
        (pw_or1 (pt_cmpR op_ne (pe_callB call_len_seq (by rfl) T.len PySem.boot_len (pa_cons (pv 0) pa_nil)) pe_int (nomark _))))) (pss_one (ps_ret pe_bl)) pss_nil)
      (pss_cons (ps_asg (pv 0) (pg_tup rfl (pgs_cons (pg_name (i := 1) scRu.nd rfl (Or.inl rfl)) (pgs_cons (pg_name (i := 2) scRu.nd rfl (Or.inl rfl)) (pgs_cons (pg_name (i := 3) scRu.nd rfl (Or.inl rfl)) pgs_nil)))))
      (pss_cons (ps_if (PW.pt (pw_or (pt_not (pt_val (pe_callB (call_isa "str") (by rfl) T.isi bootN (pa_cons (pv 1) (pa_cons (pe_bltn (v := .ty "str") (by rfl) T.str (by decide +kernel) rfl) pa_nil)))))
        (pw_or1 (pt_cmpR (op_notIn_kd Z.kd) (pv 1) (pe_glob (v := .ref kd) (by rfl) Z.at_ rfl) rfl)))) (pss_one (ps_ret pe_bl)) pss_nil)
      (pss_one (ps_ret (pe_and (pe_df DP hr (pa_cons (pv 2) pa_nil)) (pe_one (pe_df DA hr (pa_cons (pv 3) (pa_cons (pe_ix ix_kdict (pe_glob (v := .ref kd) (by rfl) Z.at_ rfl) (pv 1) (fun _ _ => rfl)) pa_nil))))))))), ?_⟩
    refine ⟨_, rfl, _, rfl, _, _, hT.ty, kit_tuple d, _, rfl, ?_⟩
    cases d with
    | tuple ds =>
      obtain ⟨a, xs, rfl, hs, hl2, hi⟩ := hT.its
      have hfm := fit_mem hf
      refine iteF ⟨_, rfl, a, _, rfl, .inr hs, rfl, _, rfl, ?_⟩
      show if (!decide (V.int (xs.length : Int) = V.int ((3 : Nat) : Int))) = true then _ else _
      rw [len_is, hl2]
      have no : ruleD (.tuple ds) = false → Q (.bl false) H := fun e => by
        rw [e] at q
        exact q
      match ds, hl2, hi, hfm, q, no with
      | [], _, _, _, _, no => exact iteT (no rfl)
      | [_], _, _, _, _, no => exact iteT (no rfl)
      | [_, _], _, _, _, _, no => exact iteT (no rfl)
      | k :: n :: m :: b :: r2, _, _, _, _, no =>
        rw [decide_eq_false (by simp)]
        exact iteT (no rfl)
      | [k, p, b], hl2, hi, hfm, q, no =>
        match xs, hl2, hs, hi with
        | [x, y, z], _, hs, hi =>
          obtain ⟨d0, z0, D0⟩ := hi 0 x rfl
          cases z0
          obtain ⟨d1, z1, D1⟩ := hi 1 y rfl
          cases z1
          obtain ⟨d2, z2, D2⟩ := hi 2 z rfl
          cases z2
          refine iteF ⟨_, rfl, a, _, rfl, hs, rfl, _, _, rfl, _, _, rfl, _, _, rfl, ?_⟩
          refine ⟨rfl, ?_⟩
          refine ⟨_, rfl, _, rfl, _, _, D0.ty, kit_str k, _, rfl, ?_⟩
          cases k with
          | str s =>
            have es := D0.str_v
            subst es
            have go : ∀ (own : Str) (u : Value), PySem.W.nsIn K kd s = some (some u) → RelV (.str own) u → (placeD p && answerD own b) = ruleT (.str s) p b → tAndV (tDf (spPlace K) (tCons (tVar 2) tNil)) (tDf (spAnswer K) (tCons (tVar 3) (tCons (tOp (rIxD K w) (tC (.ref kd)) (tVar 1)) tNil)))
                [some (.ref a), some (.str s), some y, some z] H Q := fun own u e1 e2 e3 => by
              refine ⟨_, rfl, _, p, rfl, D1, fits_of (hfm _ (by simp)), _, rfl, ?_⟩
              have q : Q (.bl (ruleT (.str s) p b)) H := q
              rw [← e3] at q
              cases e : placeD p with
              | false =>
                rw [e] at q
                exact iteF q
              | true =>
                rw [e] at q
                refine iteT ⟨_, rfl, _, rfl, _, s, .str own, rfl, rfl, ⟨es, kn, u, Z.kd.at_, Z.kd.lit, e1, e2⟩, _, b, own, rfl, D2, hfm _ (by simp), q⟩
            by_cases h1 : s = "exact"
            · have e := (hget s).trans (if_pos h1)
              exact iteF ⟨_, rfl, s, _, rfl, rfl, e, _, rfl, iteF (go "page" _ e ⟨_, rfl⟩ (by rw [h1, ruleT_exact]))⟩
            · by_cases h2 : s = "open"
              · have e := (hget s).trans ((if_neg h1).trans (if_pos h2))
                exact iteF ⟨_, rfl, s, _, rfl, rfl, e, _, rfl, iteF (go "section" _ e ⟨_, rfl⟩ (by rw [h2, ruleT_open]))⟩
              · have e := (hget s).trans ((if_neg h1).trans (if_neg h2))
                exact iteF ⟨_, rfl, s, _, rfl, rfl, e, _, rfl, iteT (no (ruleT_none h1 h2 p b))⟩
          | _ => exact iteT (no rfl)
    | _ => exact iteT q
end
end K28
/-! A tuple many times; texts joined. -/
namespace Ld
open PySem L2 PyProof.Rows
/-- t * k, up to a hundred thousand items -/
def rRepL (K : PySem.W.Frag) : R2 := fun x y H Q => ∃ l k xs, x = .ref l ∧ y = .int (k : Nat) ∧ SqT K H l xs ∧ xs ≠ [] ∧ 2 ≤ k ∧ xs.length * k ≤ 100000 ∧ ∀ p, H p = none → Q (.ref p) (upd H p (.tup (List.replicate k xs).flatten))
theorem op_repL {X : Cx} : OpR X (binaryOp .Mult) (rRepL X.K) := by
  intro pins s σ H x y v u Q I rx ry h
  obtain ⟨l, k, xs, rfl, rfl, hT, hne, h2, hk, q⟩ := h
  cases rx
  obtain ⟨t, rfl⟩ := ry
  obtain ⟨its, r, ⟨⟨c, dd, dt, sl⟩, ho, (rfl : c = _), n, (rfl : dt = _)⟩, _⟩ := I.tuple hT
  have hlen : its.length = xs.length := r.length.symm
  have hpos : 0 < xs.length := List.length_pos_iff.mpr hne
  have hbig : k ≤ 100000 := Nat.le_trans (Nat.le_mul_of_pos_left k hpos) hk
  have emp : its.toArray.isEmpty = false := by
    cases its with
    | nil =>
      simp at hlen
      omega
    | cons _ _ => rfl
  have siz : its.toArray.size = xs.length := by rw [List.size_toArray, hlen]
  have prod : ((its.toArray.size : Nat) : Int) * (k : Int) = ((xs.length * k : Nat) : Int) := by
    rw [siz]
    exact (Int.natCast_mul _ _).symm
  have flat : (List.replicate k its).flatten.length = xs.length * k := by
    rw [PyProof.Rows.lm_len_rep_flat, hlen, Nat.mul_comm]
  have tk : ((k : Int)).toNat = k := Int.toNat_natCast k
  have one : (its.toArray.isEmpty || (k : Int) == 1) = false := by
    rw [emp]
    exact beq_eq_false_iff_ne.mpr (by omega)
  have zero : (decide ((k : Int) ≤ 0) || its.toArray.isEmpty) = false := by
    rw [emp, decide_eq_false (by omega)]
    rfl
  have wide : (decide ((k : Int) < -(2 ^ 63)) || decide ((k : Int) ≥ 2 ^ 63)) = false := by
    rw [decide_eq_false (show ¬ ((k : Int) < -(2 ^ 63)) by omega), decide_eq_false (show ¬ ((k : Int) ≥ 2 ^ 63) by omega)]
    rfl
  have many : Builtin.Tuple.tupleTooMany (((its.toArray.size : Nat) : Int) * (k : Int)) = false := by
    rw [prod]
    unfold Builtin.Tuple.tupleTooMany
    rw [sizeLine_eq]
    exact decide_eq_false (by omega)
  have room : (List.foldl (fun x1 x2 => x1 ++ x2) #[] (List.replicate (k : Int).toNat its.toArray)).size ≤ sizeLine := by
    rw [size_rep, List.size_toArray, tk, flat, sizeLine_eq]
    omega
  have far : ¬ ((its.toArray.size : Nat) : Int) * (k : Int) > (2 ^ 63 - 1) / 8 := by
    rw [prod]
    omega
  have ty : s.TypeIs (.ref l) "tuple" := ⟨_, ho, rfl⟩
  have done : EP X pins σ Q (Value.ref s.heap.objs.size) { s with heap := s.heap.push { cls := Value.type "tuple", data := Data.seq (List.foldl (fun x1 x2 => x1 ++ x2) #[] (List.replicate (k : Int).toNat its.toArray)) }, toks := s.toks } := by
    rw [size_rep, tk]
    refine ⟨.ref s.heap.objs.size, _, I.laid (t' := s.toks) (o := .tup (List.replicate k xs).flatten) (fun b ob e => Heap.get?_push_of_some _ e) (Nat.le_refl _) ⟨?_, _, r.rep k, IsTup.new _ _⟩, rfl, q _ (I.hok.fresh (Nat.le_refl _))⟩
    rw [PyProof.Rows.lm_len_rep_flat, Nat.mul_comm, sizeLine_eq]
    omega
  have mul := call_meets F.slot_tuple_mul ty F.entry_tuple_mul (F.args_tuple_mul_2 _ _) (tuple_mulW l its.toArray n dd sl (k : Int) t wide one zero far many room) (prog := X.prog) (w := X.w) (A := X.A) (E := X.xe) ⟨ho, done⟩
  exact wpAny_binaryOp_repeat_ref (T := "tuple") (U := "int") (by decide) ty (fun s' => typeIs_int s' _ t) noFill_tuple_mul F.fills_int_mul F.slot_int_rmul repeat_tuple F.slot_int_index.lookup
    (call_meets F.slot_int_rmul (typeIs_int s _ t) F.entry_int_rmul (F.args_int_rmul_2 _ _) (int_rmul_tuple _ t l its.toArray n dd sl) ⟨ho, rfl, ty, mul⟩)
theorem rep_one (x : V) : ∀ n : Nat, (List.replicate n [x]).flatten = List.replicate n x
  | 0 => rfl
  | n + 1 => by rw [List.replicate_succ, List.replicate_succ, List.flatten_cons, rep_one x n]; rfl
theorem join_asc : ∀ ws : List Str, (∀ z ∈ ws, ∀ c ∈ z.cps.toList, c < 128) → (Str.join (Str.ofString "") ws).length = (ws.map (·.length)).sum ∧ ∀ c ∈ (Str.join (Str.ofString "") ws).cps.toList, c < 128
  | [], _ => ⟨rfl, fun c hc => by cases hc⟩
  | [x], h => ⟨by show x.length = x.length + 0; omega, h x List.mem_cons_self⟩
  | x :: y :: r, h => by
    obtain ⟨h1, h2⟩ := join_asc (y :: r) fun z hz => h z (List.mem_cons_of_mem _ hz)
    have e : Str.join (Str.ofString "") (x :: y :: r) = x ++ Str.ofString "" ++ Str.join (Str.ofString "") (y :: r) := rfl
    rw [e]
    refine ⟨?_, fun c hc => ?_⟩
    · rw [strLen_append, strLen_append, h1]
      have e0 : (Str.ofString "").length = 0 := by decide +kernel
      rw [e0, List.map_cons (l := y :: r), List.sum_cons]
      omega
    · have hc : c ∈ ((x.cps ++ (Str.ofString "").cps) ++ (Str.join (Str.ofString "") (y :: r)).cps).toList := hc
      rw [Array.toList_append, Array.toList_append] at hc
      rcases List.mem_append.mp hc with g | g
      · rcases List.mem_append.mp g with g | g
        · exact h x List.mem_cons_self c g
        · have e0 : (Str.ofString "").cps.toList = [] := by decide +kernel
          rw [e0] at g
          cases g
      · exact h2 c g
theorem join_is (ws : List Str) : Txt.join (Str.ofString "") ws = Str.join (Str.ofString "") ws := PySem.StrLaws.glued_eq_join _ ws
theorem sum_le {ws : List Str} {b : Nat} (h : ∀ z ∈ ws, z.length ≤ b) : (ws.map (·.length)).sum ≤ b * ws.length := by
  induction ws with
  | nil => exact Nat.zero_le _
  | cons x r ih =>
    have h1 := h x List.mem_cons_self
    have h2 := ih fun z hz => h z (List.mem_cons_of_mem _ hz)
    rw [List.map_cons, List.sum_cons, List.length_cons, Nat.mul_add]
    omega
theorem good_int {K : PySem.W.Frag} {H : Hp} (i : Int) (h : i.natAbs < 2 ^ 64) : Good K H (.int i) := by
  have l : i.natAbs.log2 < 1920 := by
    by_cases z : i.natAbs = 0
    · rw [z]
      decide
    · exact Nat.lt_trans ((Nat.log2_lt z).mpr h) (by decide)
  refine ⟨.int i, .lf (.dat (.int i)), ⟨(fun z e => by cases e), (fun ds e => by cases e)⟩, ?_, by show 0 ≤ 40; decide, ?_⟩
  · simp only [PyData.showable]
    exact decide_eq_true l
  · simp only [PyData.shown]
    exact int_text_fits l
end Ld
/-! Order of tuples, texts many times, data of words. -/
namespace Ld
open PySem L2 PyProof.Rows
section
variable {X : Cx}
/-- a < b of data that is alike -/
def rLtD (K : PySem.W.Frag) : R2 := fun x y H Q => ∃ d e, Dp K H x d ∧ Dp K H y e ∧ PySem.W.alike d e = true ∧ d ≠ .none ∧ d.depth ≤ 64 ∧ Q (.bl (PySem.W.dataLt d e)) H
theorem op_ltD (hu : X.A.units + 64 < cLine) : OpR X (compareOp .Lt) (rLtD X.K) := by
  intro pins s σ H x y v u Q I rx ry h
  obtain ⟨d, e, hd, he, ha, hn, hp, q⟩ := h
  obtain ⟨as, r1⟩ := dp_reads I.hok I.kIn d x v hd rx
  obtain ⟨bs, r2⟩ := dp_reads I.hok I.kIn e y u he ry
  have m : min d.depth e.depth ≤ d.depth := Nat.min_le_left _ _
  exact PySem.W.rcLt_alike d e X.A s v u as bs r1 r2 ha hn (by omega) X.prog X.w X.xe _ ⟨.bl _, H, I, rfl, q⟩
/-- 'a' * n -/
def rMulS : R2 := fun x y H Q => ∃ (z : Str) (n : Nat), x = .str z ∧ y = .int (n : Int) ∧ z.length ≤ 1000 ∧ n ≤ 1000 ∧ Q (.str (Txt.mul z n)) H
theorem op_mulS : OpR X (binaryOp .Mult) rMulS := by
  intro pins s σ H x y v u Q I rx ry h
  obtain ⟨z, n, rfl, rfl, h1, h2, q⟩ := h
  obtain ⟨t, rfl⟩ := rx
  obtain ⟨t2, rfl⟩ := ry
  exact SB.mul (mulOk_of 1000 1000 h1 (by omega) (by omega) (by decide) (by decide)) fun t' k => ⟨.str _, H, I.tok k, ⟨t', rfl⟩, q⟩
/-- repr of a bool -/
def boolText (b : Bool) : Str := if b then "True" else "False"
theorem call_reprB : CallR X (.builtin "repr") (fun xs H Q => ∃ b, xs = [.bl b] ∧ Q (.str (boolText b)) H) := by
  intro pins s σ H xs us Q I r h
  obtain ⟨b, rfl, q⟩ := h
  obtain ⟨u, rfl, ru⟩ := vals1 r
  cases ru
  refine P.repr_of_bool ⟨.str (boolText b), H, I.tok _, ⟨s.toks, ?_⟩, q⟩
  unfold boolText
  cases b <;> rfl
end
section
variable {X : Cx} {K : PySem.W.Frag}
theorem sl_tupK (h : X.K = K := by rfl) : SlR X (rSlW K) := by
  subst h
  exact sl_tupW
def rTup (K : PySem.W.Frag) : List V → Hp → VK → Prop := fun xs H Q => ∃ p ys, xs = [.ref p] ∧ ((SqL K H p ys ∧ ∀ l, H l = none → Q (.ref l) (upd H l (.tup ys))) ∨ (SqT K H p ys ∧ Q (.ref p) H))
theorem call_tupK (h : X.K = K := by rfl) : CallR X (.type "tuple") (rTup K) := by
  subst h
  exact call_tuple_of
end
theorem boolText_inj (a b : Bool) : decide (V.str (boolText a) = V.str (boolText b)) = decide (a = b) := by
  cases a <;> cases b <;> decide +kernel
/-! ### tuples of words -/
def wt (ws : List Str) : PyData := .tuple (ws.map PyData.str)
theorem lay_words : ∀ {ws : List Str}, (∀ z ∈ ws, ∀ c ∈ z.cps.toList, c < 128) → PyData.canLayAll0 (ws.map PyData.str) = true
  | [], _ => rfl
  | z :: ws, h => by
    have h2 := lay_words fun y hy => h y (List.mem_cons_of_mem _ hy)
    have h1 : PyData.strOk z = true := by
      unfold PyData.strOk
      rw [arr_all]
      exact List.all_eq_true.mpr fun c hc => decide_eq_true (Nat.lt_trans (h z List.mem_cons_self c hc) (by decide))
    simp only [List.map_cons, PyData.canLayAll0, PyData.canLay0, h1, h2, Bool.and_self]
theorem depth_words : ∀ ws : List Str, PyData.depthAll (ws.map PyData.str) = 0
  | [] => rfl
  | z :: ws => by simp [PyData.depthAll, PyData.depth, depth_words ws]
theorem shaped_wt {ws : List Str} (h : ∀ z ∈ ws, ∀ c ∈ z.cps.toList, c < 128) : SeqAt.shaped (wt ws) = true := by
  unfold SeqAt.shaped wt
  simp only [PyData.canLay0, lay_words h, PyData.depth, depth_words]
  decide
theorem shaped_wl {ws : List Str} (h : ∀ z ∈ ws, ∀ c ∈ z.cps.toList, c < 128) : SeqAt.shaped (.list (ws.map PyData.str)) = true := by
  unfold SeqAt.shaped
  simp only [PyData.canLay0, lay_words h, PyData.depth, depth_words]
  decide
theorem eqv_words : ∀ ws us : List Str, PyData.eqvAll (ws.map PyData.str) (us.map PyData.str) = decide (ws = us)
  | [], [] => rfl
  | [], _ :: _ => rfl
  | _ :: _, [] => rfl
  | a :: ws, b :: us => by
    simp only [List.map_cons, PyData.eqvAll, eqv_words ws us, PyData.eqv]
    by_cases h1 : a = b
    · subst h1
      by_cases h2 : ws = us
      · subst h2
        simp
      · rw [decide_eq_false h2, decide_eq_false (fun e => h2 (List.cons.inj e).2), Bool.and_false]
    · have hb : (a == b) = false := beq_eq_false_iff_ne.mpr h1
      rw [decide_eq_false (fun e => h1 (List.cons.inj e).1)]
      first
        | rw [hb, Bool.false_and]
        | simp [hb, h1]
theorem eqv_wt (ws us : List Str) : PyData.eqv (wt ws) (wt us) = decide (ws = us) := by
  unfold wt
  simp only [PyData.eqv]
  exact eqv_words ws us
theorem eqv_wl (ws us : List Str) : PyData.eqv (.list (ws.map PyData.str)) (.list (us.map PyData.str)) = decide (ws = us) := by
  simp only [PyData.eqv]
  exact eqv_words ws us
/-! ### the order of addresses -/
def wordsLt : List Str → List Str → Bool
  | a :: ws, b :: us => if a = b then wordsLt ws us else decide (a.cps.toList < b.cps.toList)
  | [], b => !b.isEmpty
  | _ :: _, [] => false
def keyD (ws : List Str) : PyData := .tuple [.int ws.length, wt ws]
def keyLt (ws us : List Str) : Bool := if ws.length = us.length then wordsLt ws us else decide (ws.length < us.length)
theorem alike_words : ∀ ws us : List Str, PySem.W.alikeAll (ws.map PyData.str) (us.map PyData.str) = true
  | [], _ => by simp [PySem.W.alikeAll]
  | _ :: _, [] => by simp [PySem.W.alikeAll]
  | a :: ws, b :: us => by simp [PySem.W.alikeAll, PySem.W.alike, alike_words ws us]
theorem alike_key (ws us : List Str) : PySem.W.alike (keyD ws) (keyD us) = true := by
  simp [keyD, wt, PySem.W.alike, PySem.W.alikeAll, alike_words]
theorem cps_inj {a b : Str} (h : a.cps.toList = b.cps.toList) : a = b := PySem.W.str_of_cps h
theorem lt_words : ∀ ws us : List Str, lexLt itemOrd (PySem.W.keyToksAll (ws.map PyData.str)) (PySem.W.keyToksAll (us.map PyData.str)) = wordsLt ws us
  | [], [] => by decide
  | [], b :: us => by
    simp only [List.map_nil, List.map_cons, PySem.W.keyToksAll, wordsLt]
    rw [PySem.W.lex_atom (by decide)]
    rfl
  | a :: ws, [] => by
    simp only [List.map_nil, List.map_cons, PySem.W.keyToksAll, wordsLt]
    rw [PySem.W.lex_atom (by decide)]
    rfl
  | a :: ws, b :: us => by
    have al : PySem.W.alike (.str a) (.str b) = true := by simp [PySem.W.alike]
    unfold wordsLt
    by_cases h : a = b
    · subst h
      rw [if_pos rfl, List.map_cons, List.map_cons, PySem.W.dataLt_all_yes al (by simp [PyData.eqv])]
      exact lt_words ws us
    · rw [if_neg h, List.map_cons, List.map_cons, PySem.W.dataLt_all_no al (by simp [PyData.eqv, h]), PySem.W.dataLt_str]
theorem wordsLt_self : ∀ ws : List Str, wordsLt ws ws = false
  | [] => rfl
  | a :: ws => by
    unfold wordsLt
    rw [if_pos rfl]
    exact wordsLt_self ws
theorem lt_key (ws us : List Str) : PySem.W.dataLt (keyD ws) (keyD us) = keyLt ws us := by
  unfold keyD keyLt
  rw [PySem.W.dataLt_tuple]
  have al : PySem.W.alike (.int (ws.length : Int)) (.int (us.length : Int)) = true := by simp [PySem.W.alike]
  have al2 : PySem.W.alike (wt ws) (wt us) = true := by simp [wt, PySem.W.alike, alike_words]
  by_cases h : ws.length = us.length
  · rw [if_pos h, PySem.W.dataLt_all_yes al (by simp [PyData.eqv, h])]
    by_cases h2 : ws = us
    · subst h2
      rw [PySem.W.dataLt_all_yes al2 (by rw [eqv_wt]; simp)]
      rw [wordsLt_self]
      decide
    · rw [PySem.W.dataLt_all_no al2 (by rw [eqv_wt]; exact decide_eq_false h2)]
      unfold wt
      rw [PySem.W.dataLt_tuple]
      exact lt_words ws us
  · rw [if_neg h, PySem.W.dataLt_all_no al (by simp [PyData.eqv]; omega), PySem.W.dataLt_int]
    by_cases h3 : ws.length < us.length
    · rw [decide_eq_true h3, decide_eq_true (by omega)]
    · rw [decide_eq_false h3, decide_eq_false (by omega)]
end Ld
namespace K28
open PySem L2 Ld
abbrev sRest : Stmt := top 13
abbrev sKey : Stmt := top 14
abbrev sBegs : Stmt := top 15
section
variable {P : Program} {w : World} {K : PySem.W.Frag} {mg : Str → Option Value} {base : Heap} {f : Addr} {fd : FuncData}
theorem cut_lo (ws : List Str) (k : Nat) : cutV (ws.map V.str) none (some (k : Int)) = (ws.take k).map V.str := by
  unfold cutV
  rw [HT.sIx_none, HT.sIx_nat, List.drop_zero, Nat.sub_zero, List.length_map, ← List.map_take]
  by_cases h : k ≤ ws.length
  · rw [Nat.min_eq_left h]
  · rw [Nat.min_eq_right (by omega), List.take_of_length_le (Nat.le_refl _), List.take_of_length_le (by omega)]
theorem cut_hi (ws : List Str) (k : Nat) : cutV (ws.map V.str) (some (k : Int)) none = (ws.drop k).map V.str := by
  unfold cutV
  rw [HT.sIx_none, HT.sIx_nat, List.length_map]
  by_cases h : k ≤ ws.length
  · rw [Nat.min_eq_left h, ← List.map_drop, List.take_of_length_le (by simp)]
  · rw [Nat.min_eq_right (by omega), ← List.map_drop, List.drop_of_length_le (Nat.le_refl _), List.drop_of_length_le (by omega)]
    simp
theorem dp_wt {H : Hp} {a : Addr} {ws : List Str} (h : SqT K H a (ws.map V.str)) : Dp K H (.ref a) (wt ws) := .tup h (dp_strs ws)
def spRest (K : PySem.W.Frag) : Sp := fun vs H Q _ => ∃ (a b : Addr) (ws us : List Str), vs = [.ref a, .ref b] ∧ SqT K H a (ws.map V.str) ∧ SqT K H b (us.map V.str) ∧ ∀ r H', Same H H' → SqT K H' r ((ws.drop us.length).map V.str) → Q (.ref r) H'
theorem scRest : FnScope ["address", "beginning"] ["address", "beginning"] (defScope sRest) := ⟨rfl, rfl, rfl, by decide +kernel, rfl, by decide +kernel, by decide +kernel⟩
theorem ok_rest (Fd : Fun K "rest_of" "rest_of" sRest f fd) (T : Tx mg) : FnOk P w K mg base CX0 1 f fd ["address", "beginning"] (spRest K) := by
  refine Fd.ok scRest (fun vs H Q E h => ?_) (fun cdv A outer s H vs Q E hr h => ?_)
  · obtain ⟨a, b, ws, us, rfl, _⟩ := h
    rfl
  · obtain ⟨a, b, ws, us, rfl, ha, hb, q⟩ := h
    refine ⟨_, pss_one (ps_ret (pe_callTy call_tuple_of (by rfl) T.tuple (by decide +kernel) (pa_cons (pe_callTy call_list_of (by rfl) T.list (by decide +kernel) (pa_cons (pe_slice sl_tupW (pv 0) (po_some (pe_callB call_len_seq (by rfl) T.len PySem.boot_len (pa_cons (pv 1) pa_nil))) po_none) pa_nil)) pa_nil))), ?_⟩
    refine ⟨_, rfl, _, rfl, b, _, rfl, .inr hb, _, rfl, a, _, rfl, ha, fun r H1 s1 h1 => ?_⟩
    rw [List.length_map, cut_hi] at h1
    refine ⟨r, _, rfl, .inr h1, fun l hl => ?_⟩
    refine ⟨l, _, rfl, .inl ⟨.of upd_same, fun p hp => ?_⟩⟩
    exact q p _ (s1.trans ((Ld.Same.new hl).trans (Ld.Same.new hp))) (.of upd_same)
def spKey (K : PySem.W.Frag) : Sp := fun vs H Q _ => ∃ (a : Addr) (ws : List Str), vs = [.ref a] ∧ SqT K H a (ws.map V.str) ∧ ∀ r H', Same H H' → Dp K H' (.ref r) (keyD ws) → Q (.ref r) H'
theorem scKey : FnScope ["address"] ["address"] (defScope sKey) := ⟨rfl, rfl, rfl, by decide +kernel, rfl, by decide +kernel, by decide +kernel⟩
theorem ok_key (Fd : Fun K "address_key" "address_key" sKey f fd) (T : Tx mg) : FnOk P w K mg base CX0 1 f fd ["address"] (spKey K) := by
  refine Fd.ok scKey (fun vs H Q E h => ?_) (fun cdv A outer s H vs Q E hr h => ?_)
  · obtain ⟨a, ws, rfl, _⟩ := h
    rfl
  · obtain ⟨a, ws, rfl, ha, q⟩ := h
    refine ⟨_, pss_one (ps_ret (pe_tup (pa_cons (pe_callB call_len_seq (by rfl) T.len PySem.boot_len (pa_cons (pv 0) pa_nil)) (pa_cons (pe_callTy call_tuple_of (by rfl) T.tuple (by decide +kernel) (pa_cons (pv 0) pa_nil)) pa_nil)))), ?_⟩
    refine ⟨_, rfl, a, _, rfl, .inr ha, _, rfl, a, _, rfl, .inr ⟨ha, (show 2 ≤ sizeLine by decide), fun p hp => ?_⟩⟩
    have s1 := Same.new (o := .tup [.int (((ws.map V.str).length : Nat) : Int), .ref a]) hp
    refine q p _ s1 ?_
    rw [List.length_map]
    exact .tup (.of upd_same) (.cons (.int _) (.cons (dp_wt (same_T (by rw [List.length_map] at s1; exact s1) ha)) .nil))
/-- the beginnings, as data -/
def begD (ws : List Str) (n : Nat) : List PyData := (List.range n).map fun k => wt (ws.take k)
/-- tuples that stand -/
def Tups (K : PySem.W.Frag) (H : Hp) (ps : List Addr) (ws : List Str) : Prop := ∀ (j : Nat) (p : Addr), ps[j]? = some p → SqT K H p ((ws.take j).map V.str)
theorem tups_dp {H : Hp} {ws : List Str} : ∀ {ps : List Addr} {k : Nat}, (∀ (j : Nat) (p : Addr), ps[j]? = some p → SqT K H p ((ws.take (k + j)).map V.str)) → DpAll K H (ps.map V.ref) ((List.range' k ps.length).map fun k => wt (ws.take k))
  | [], k, _ => .nil
  | p :: ps, k, h => by
    show DpAll K H (V.ref p :: ps.map V.ref) ((List.range' k (ps.length + 1)).map fun k => wt (ws.take k))
    rw [List.range'_succ, List.map_cons]
    exact .cons (dp_wt (h 0 p rfl)) (tups_dp fun j q e => by
      have := h (j + 1) q (by simpa using e)
      rw [show k + (j + 1) = k + 1 + j from by omega] at this
      exact this)
theorem tups_beg {H : Hp} {ws : List Str} {ps : List Addr} (h : Tups K H ps ws) : DpAll K H (ps.map V.ref) (begD ws ps.length) := by
  unfold begD
  rw [List.range_eq_range']
  exact tups_dp (k := 0) fun j p e => by rw [Nat.zero_add]; exact h j p e
theorem sqT_list {H : Hp} {D p : Addr} {acc acc' xs : List V} (hD : H D = some (.lst acc)) (h : SqT K H p xs) : SqT K (upd H D (.lst acc')) p xs := by
  rcases h with (h | ⟨o, h⟩) | h
  · refine .inl (.inl ?_)
    rw [upd_ne (ne_of h hD (fun e => nomatch e))]
    exact h
  · refine .inl (.inr ⟨o, ?_⟩)
    rw [upd_ne (ne_of h hD (fun e => nomatch e))]
    exact h
  · exact .inr h
def spBegs (K : PySem.W.Frag) : Sp := fun vs H Q _ => ∃ (a : Addr) (ws : List Str), vs = [.ref a] ∧ SqT K H a (ws.map V.str) ∧ ws.length ≤ 12 ∧ ∀ r xs H', H r = none → Same H H' → H' r = some (.lst xs) → xs.length = ws.length + 1 → DpAll K H' xs (begD ws (ws.length + 1)) → Q (.ref r) H'
theorem scBegs : FnScope ["address", "size"] ["address"] (defScope sBegs) := ⟨rfl, rfl, rfl, by decide +kernel, rfl, by decide +kernel, by decide +kernel⟩
theorem ok_begs (Fd : Fun K "beginnings" "beginnings" sBegs f fd) (T : Tx mg) : FnOk P w K mg base CX0 1 f fd ["address"] (spBegs K) := by
  refine Fd.ok scBegs (fun vs H Q E h => ?_) (fun cdv A outer s H vs Q E hr h => ?_)
  · obtain ⟨a, ws, rfl, _⟩ := h
    rfl
  · obtain ⟨a, ws, rfl, ha, hl, q⟩ := h
    refine ⟨_, pss_one (ps_ret (pe_lc (own := [("size", 1)]) (g := gName 1) (tt := tYes) (by rfl) scBegs.nd (pi_range1 rfl T.range (pa_cons (pe_op op_add (pe_callB call_len_seq (by rfl) T.len PySem.boot_len (pa_cons (pv 0) pa_nil)) pe_int) pa_nil))
      (blkOk_by (own := [("size", 1)]) (N := ["address", "size"]) (sc := defScope sBegs) (by decide +kernel)) (fun _ _ _ _ _ => pg_name (i := 1) scBegs.nd rfl (Or.inl rfl)) (fun _ _ _ _ _ => pts_nil)
      (fun _ _ _ _ _ => pe_callTy (T := "tuple") (r := rTup K) call_tupK (by rfl) T.tuple (by decide +kernel) (pa_cons (pe_slice (r := rSlW K) sl_tupK (pv 0) po_none (po_some (pv 1))) pa_nil)))), ?_⟩
    refine ⟨_, rfl, a, _, rfl, .inr ha, _, _, rfl, rfl, _, rfl, by omega, by rw [List.length_map]; omega, fun D hD => ?_⟩
    refine lc_range (lo := 0) (n := ((((ws.map V.str).length : Nat) : Int) + 1).toNat) (fun i G => Same H G ∧ ∃ ps : List Addr, G D = some (.lst (ps.map V.ref)) ∧ ps.length = i ∧ Tups K G ps ws) ⟨Ld.Same.new hD, [], upd_same, rfl, fun j p e => nomatch e⟩ ?_ ?_
    · rintro i G hi ⟨s1, ps, hp, hn, ht⟩
      rw [List.length_map] at hi
      refine ⟨rfl, ?_⟩
      show tCB (rTup K) (tCons (tSl (rSlW K) (tVar 0) tNoPart (tPart (tVar 1))) tNil) _ _ _
      refine ⟨_, rfl, _, rfl, _, rfl, a, _, rfl, same_T s1 ha, fun r G2 s2 h2 => ?_⟩
      rw [Int.zero_add, cut_lo] at h2
      refine ⟨r, _, rfl, .inr ⟨h2, _, s2 _ _ hp, by rw [List.length_map]; exact Nat.lt_of_le_of_lt (show ps.length ≤ 13 by omega) (by decide), fun b o e => ?_, ps ++ [r], ?_, by simp [hn], ?_⟩⟩
      · rw [upd_ne (ne_of_none e hD)]
        exact s2 _ _ (s1 b o e)
      · rw [upd_same, List.map_append]
        rfl
      · intro j p e
        by_cases hj : j < ps.length
        · rw [List.getElem?_append_left hj] at e
          exact sqT_list (s2 _ _ hp) (same_T s2 (ht j p e))
        · have hj2 : j = ps.length := by
            have := (List.getElem?_eq_some_iff.mp e).1
            simp at this
            omega
          subst hj2
          rw [List.getElem?_append_right (Nat.le_refl _), Nat.sub_self] at e
          cases e
          rw [hn]
          exact sqT_list (s2 _ _ hp) h2
    · rintro G ⟨s1, ps, hp, hn, ht⟩
      rw [List.length_map] at hn
      have e : ps.length = ws.length + 1 := by omega
      refine q D _ G hD s1 hp (by rw [List.length_map]; exact e) ?_
      rw [← e]
      exact tups_beg ht
end
end K28
/-! Dicts whose keys are tuples of any depth. -/
namespace Ld
open PySem L2 PyProof.Rows
/-! ### keys -/
mutual
inductive NIs (K : PySem.W.Frag) (H : Hp) : NestedKey → V → Prop
  | none : NIs K H .none .non
  | num (i : Int) : NIs K H (.num i) (.int i)
  | text (x : Str) : NIs K H (.text x) (.str x)
  | tup {a : Addr} {xs : List V} {ks : List NestedKey} : SqT K H a xs → NAll K H ks xs → NIs K H (.tup ks) (.ref a)
inductive NAll (K : PySem.W.Frag) (H : Hp) : List NestedKey → List V → Prop
  | nil : NAll K H [] []
  | cons {k : NestedKey} {v : V} {ks : List NestedKey} {vs : List V} : NIs K H k v → NAll K H ks vs → NAll K H (k :: ks) (v :: vs)
end
section
variable {K : PySem.W.Frag} {H H' : Hp} {P : Program} {w : World} {h : Heap}
mutual
theorem nis_mono (hT : ∀ a xs, SqT K H a xs → SqT K H' a xs) : ∀ {k : NestedKey} {v : V}, NIs K H k v → NIs K H' k v
  | _, _, .none => .none
  | _, _, .num i => .num i
  | _, _, .text x => .text x
  | _, _, .tup a b => .tup (hT _ _ a) (nall_mono hT b)
theorem nall_mono (hT : ∀ a xs, SqT K H a xs → SqT K H' a xs) : ∀ {ks : List NestedKey} {vs : List V}, NAll K H ks vs → NAll K H' ks vs
  | _, _, .nil => .nil
  | _, _, .cons a b => .cons (nis_mono hT a) (nall_mono hT b)
end
theorem NIs.same {k : NestedKey} {v : V} (z : NIs K H k v) (s : Same H H') : NIs K H' k v := nis_mono (fun _ _ q => same_T s q) z
theorem NIs.sb {k : NestedKey} {v : V} {wa : Addr} (z : NIs K H k v) (W : Well H wa) (s : Sb wa H H') : NIs K H' k v := nis_mono (fun _ _ q => seqT W s q) z
mutual
theorem nis_is (ok : HOk P w H h) (kin : K.In h) : ∀ {k : NestedKey} {v : V} {u : Value}, NIs K H k v → RelV v u → NestedIs h k u
  | _, _, _, .none, r => by cases r; exact .none
  | _, _, _, .num i, r => by obtain ⟨t, rfl⟩ := r; exact .int i t
  | _, _, _, .text x, r => by obtain ⟨t, rfl⟩ := r; exact .text x t
  | _, _, _, .tup hs ha, r => by
    cases r
    rcases hs with hs | ⟨o, its, n, hk, hc, hs, hz, rv⟩
    · obtain ⟨z, its, rv, o, e', c, n, dt⟩ := hs.ok ok
      exact .tup e' c dt (by simpa using nall_is ok kin ha rv)
    · exact .tup (kin _ o hk) hc hs (by simpa using nall_is ok kin ha rv)
theorem nall_is (ok : HOk P w H h) (kin : K.In h) : ∀ {ks : List NestedKey} {vs : List V} {us : List Value}, NAll K H ks vs → Vals vs us → NestedAll h ks us
  | _, _, _, .nil, r => by cases r; exact .nil
  | _, _, _, .cons a b, r => by
    cases r with
    | cons r1 r2 => exact .cons (nis_is ok kin a r1) (nall_is ok kin b r2)
end
theorem nall_strs : ∀ ws : List Str, NAll K H (ws.map NestedKey.text) (ws.map V.str)
  | [] => .nil
  | w :: ws => .cons (.text w) (nall_strs ws)
end
/-! ### rows -/
abbrev Rw : Type := NestedKey × Addr × V
def KR (x : Rw) (y : NestedKey × Addr × Value) : Prop := x.1 = y.1 ∧ x.2.1 = y.2.1 ∧ RelV x.2.2 y.2.2
def kGet (xs : List Rw) (k : NestedKey) : Option V := (xs.find? fun x => decide (x.1 = k)).map (·.2.2)
def kSet (k : NestedKey) (v : V) (x : Rw) : Rw := if x.1 = k then (x.1, x.2.1, v) else x
def kPut (xs : List Rw) (k : NestedKey) (b : Addr) (v : V) : List Rw := if (kGet xs k).isSome then xs.map (kSet k v) else xs ++ [(k, b, v)]
theorem kGet_cons (x : Rw) (xs : List Rw) (k : NestedKey) : kGet (x :: xs) k = if x.1 = k then some x.2.2 else kGet xs k := by
  unfold kGet
  by_cases h : x.1 = k
  · simp [List.find?, h]
  · simp [List.find?, h]
theorem at_cons (y : NestedKey × Addr × Value) (ys : List (NestedKey × Addr × Value)) (k : NestedKey) : atKey (y :: ys) k = if y.1 = k then some y.2 else atKey ys k := by
  unfold atKey
  by_cases h : y.1 = k
  · simp [List.find?, h]
  · simp [List.find?, h]
theorem rows_get (k : NestedKey) : ∀ {xs : List Rw} {ys : List (NestedKey × Addr × Value)}, Paired KR xs ys → (atKey ys k).isSome = (kGet xs k).isSome ∧ ∀ v, kGet xs k = some v → ∃ p, atKey ys k = some p ∧ RelV v p.2
  | [], _, r => by
    cases r
    exact ⟨rfl, fun v e => by cases e⟩
  | x :: xs, _, r => by
    cases r with
    | @cons _ y _ ys a b =>
      obtain ⟨e1, e2, e3⟩ := a
      rw [kGet_cons, at_cons, ← e1]
      by_cases h : x.1 = k
      · rw [if_pos h, if_pos h]
        exact ⟨rfl, fun v e => ⟨_, rfl, by cases e; exact e3⟩⟩
      · rw [if_neg h, if_neg h]
        exact rows_get k b
theorem paired_append {α β : Type} {F : α → β → Prop} : ∀ {as cs : List α} {bs ds : List β}, Paired F as bs → Paired F cs ds → Paired F (as ++ cs) (bs ++ ds)
  | _, _, _, _, .nil, h => h
  | _, _, _, _, .cons a b, h => .cons a (paired_append b h)
theorem rows_set (k : NestedKey) {v : V} {u : Value} (r : RelV v u) : ∀ {xs : List Rw} {ys : List (NestedKey × Addr × Value)}, Paired KR xs ys → Paired KR (xs.map (kSet k v)) (ys.map (putAt k u))
  | _, _, .nil => .nil
  | _, _, .cons (a := x) (b := y) a b => by
    obtain ⟨e1, e2, e3⟩ := a
    refine .cons ?_ (rows_set k r b)
    unfold kSet putAt
    rw [← e1]
    by_cases h : x.1 = k
    · rw [if_pos h, if_pos h]
      exact ⟨rfl, e2, r⟩
    · rw [if_neg h, if_neg h]
      exact ⟨e1, e2, e3⟩
theorem rows_put (k : NestedKey) (b : Addr) {v : V} {u : Value} (r : RelV v u) {xs : List Rw} {ys : List (NestedKey × Addr × Value)} (p : Paired KR xs ys) : Paired KR (kPut xs k b v) (storedH ys k b u) := by
  unfold kPut storedH
  rw [(rows_get k p).1]
  split
  · exact rows_set k r p
  · exact paired_append p (.cons ⟨rfl, rfl, r⟩ .nil)
theorem kPut_len (xs : List Rw) (k : NestedKey) (b : Addr) (v : V) : (kPut xs k b v).length ≤ xs.length + 1 := by
  unfold kPut
  split <;> simp
/-! ### the dict -/
def kdO (P : Program) (w : World) (d : Addr) (xs : List Rw) : HO := .ext fun h => ∃ ys : List (NestedKey × Addr × Value), Paired KR xs ys ∧ ∃ o es ep, h.get? d = some o ∧ o.ExactDict ∧ o.data = .dict es ep ∧ es.toList = ys.map (entryOfKey (nestedKind P w)) ∧ (ys.map (·.1)).Nodup
theorem kdO_ok {P : Program} {w : World} {H : Hp} {h : Heap} {d : Addr} {xs : List Rw} {ys : List (NestedKey × Addr × Value)} (p : Paired KR xs ys) (m : h.DictOfH (nestedKind P w) d ys) : ObjOk P w H h d (kdO P w d xs) := by
  obtain ⟨o, es, ep, ho, hc, hd, he, _, hn⟩ := m
  refine ⟨⟨ys, p, o, es, ep, ho, hc, hd, he, hn⟩, ⟨o, ho⟩, fun h1 h2 z kp => ?_⟩
  obtain ⟨ys, p, o, es, ep, ho, r⟩ := z
  exact ⟨ys, p, o, es, ep, kp o ho, r⟩
/-- at d: a dict of the rows xs -/
structure KD (P : Program) (w : World) (K : PySem.W.Frag) (H : Hp) (d : Addr) (xs : List Rw) : Prop where
  at_ : H d = some (kdO P w d xs)
  low : (d == sysModules) = false -- apart from the modules
  few : xs.length ≤ 1000
  key : ∀ x ∈ xs, NIs K H x.1 (.ref x.2.1) ∧ x.1.depth ≤ 8
theorem kdO_ne {P : Program} {w : World} {d : Addr} {xs : List Rw} {o : HO} (n : ∀ φ, HO.ext φ ≠ o) : kdO P w d xs ≠ o := n _
section
variable {P : Program} {w : World} {K : PySem.W.Frag} {H H' : Hp} {h : Heap} {d : Addr} {xs : List Rw}
theorem KD.same (z : KD P w K H d xs) (s : Same H H') : KD P w K H' d xs := ⟨s _ _ z.at_, z.low, z.few, fun x hx => ⟨(z.key x hx).1.same s, (z.key x hx).2⟩⟩
theorem KD.sb {wa : Addr} (z : KD P w K H d xs) (W : Well H wa) (s : Sb wa H H') : KD P w K H' d xs := ⟨s _ _ (W.ne z.at_ trivial) z.at_, z.low, z.few, fun x hx => ⟨(z.key x hx).1.sb W s, (z.key x hx).2⟩⟩
theorem KD.dict (z : KD P w K H d xs) (ok : HOk P w H h) (kin : K.In h) : ∃ ys, Paired KR xs ys ∧ h.DictOfH (nestedKind P w) d ys := by
  have x : ObjOk P w H h d (kdO P w d xs) := ok d _ z.at_
  obtain ⟨⟨ys, p, o, es, ep, ho, hc, hd, he, hn⟩, _⟩ := x
  refine ⟨ys, p, o, es, ep, ho, hc, hd, he, fun y hy => ?_, hn⟩
  have key : ∀ {l : List Rw} {m : List (NestedKey × Addr × Value)}, Paired KR l m → ∀ y ∈ m, ∃ x ∈ l, KR x y := by
    intro l m q
    induction q with
    | nil => exact fun y hy => nomatch hy
    | cons a b ih =>
      intro y hy; rcases List.mem_cons.mp hy with e | e
      · rw [e]
        exact ⟨_, List.mem_cons_self, a⟩
      · obtain ⟨x, h1, h2⟩ := ih y e
        exact ⟨x, List.mem_cons_of_mem _ h1, h2⟩
  obtain ⟨x, hx, e1, e2, e3⟩ := key p y hy
  rw [← e1, ← e2]
  exact ⟨nis_is ok kin (z.key x hx).1 rfl, (z.key x hx).2⟩
end
section
variable {X : Cx}
theorem kroom (hu : X.A.units + 16 < cLine) : (nestedKind X.prog X.w).room X.A.in1 := by
  show X.A.units + 1 + 8 < cLine
  omega
/-- key in d -/
def rInN (P : Program) (w : World) (K : PySem.W.Frag) : R2 := fun x y H Q => ∃ (b d : Addr) (k : NestedKey) (xs : List Rw), x = .ref b ∧ y = .ref d ∧ NIs K H k (.ref b) ∧ k.depth ≤ 8 ∧ KD P w K H d xs ∧ Q (.bl (kGet xs k).isSome) H
theorem op_inN (hu : X.A.units + 16 < cLine) : OpR X (compareOp .In) (rInN X.prog X.w X.K) := by
  intro pins0 s0 σ0 H0 x0 y0 v0 u0 Q0 I0 rx0 ry0 ⟨b, d, k, xs, e1, e2, hk, hd, z, q0⟩
  subst e1 e2
  cases rx0
  cases ry0
  obtain ⟨ys, p, m⟩ := z.dict I0.hok I0.kIn
  refine wpAny_in_heap (kroom hu) ⟨nis_is I0.hok I0.kIn hk rfl, hd⟩ z.low m ?_
  rw [(rows_get k p).1]
  exact ⟨.bl _, H0, I0.tok _, rfl, q0⟩
/-- d[key] -/
theorem ix_kd (hu : X.A.units + 16 < cLine) : IxR X (fun x y H Q => ∃ (b d : Addr) (k : NestedKey) (xs : List Rw) (v : V), x = .ref d ∧ y = .ref b ∧ NIs X.K H k (.ref b) ∧ k.depth ≤ 8 ∧ KD X.prog X.w X.K H d xs ∧ kGet xs k = some v ∧ Q v H) := by
  intro value slice pins0 s0 σ0 H0 x0 y0 v0 u0 Q0 I0 rx0 ry0 ⟨b, d, k, xs, v, e1, e2, hk, hd, z, hv, q0⟩ hs0
  subst e1 e2
  cases rx0
  cases ry0
  obtain ⟨ys, p, m⟩ := z.dict I0.hok I0.kIn
  obtain ⟨pp, hp, rp⟩ := (rows_get k p).2 v hv
  exact tail_any m.typeIs slot_dict_getitem.lookup (wpAny_getItem_heap (kroom hu) ⟨nis_is I0.hok I0.kIn hk rfl, hd⟩ m hp ⟨v, H0, I0.tok _, rp, q0⟩) hs0
/-- {} of this kind -/
theorem pe_dnewN {pos : Pos} : PE X (.Dict [] [] pos) (fun _ H Q => ∀ d, H d = none → (d == sysModules) = false → Q (.ref d) (upd H d (kdO X.prog X.w d []))) := ⟨fun pins0 s0 σ0 H0 Q0 I0 h0 =>
  wpAny_Dict_empty ⟨.ref s0.heap.objs.size, _, I0.laid (a := s0.heap.objs.size) (o := kdO X.prog X.w s0.heap.objs.size []) (t' := s0.toks) (fun b0 o0 q => Heap.get?_push_of_some _ q) (Nat.le_refl _) (kdO_ok .nil (Heap.DictOfH.new s0.heap)), rfl, h0 _ I0.fresh (beq_eq_false_iff_ne.mpr (Nat.ne_of_gt I0.big))⟩⟩
/-- d[key] = v -/
def putN (P : Program) (w : World) (K : PySem.W.Frag) : TSet := fun o i v H Q => ∃ (b d : Addr) (k : NestedKey) (xs : List Rw), o = .ref d ∧ i = .ref b ∧ NIs K H k (.ref b) ∧ k.depth ≤ 8 ∧ KD P w K H d xs ∧ Q (upd H d (kdO P w d (kPut xs k b v)))
theorem pset_kd (hu : X.A.units + 16 < cLine) : PSet X (putN X.prog X.w X.K) := by
  intro pins0 s0 σ0 H0 o0 i0 v0 ov iv u0 Q0 I0 ro ri rv ⟨b, d, k, xs, e1, e2, hk, hd, z, q0⟩
  subst e1 e2
  cases ro
  cases ri
  obtain ⟨ys, p, m⟩ := z.dict I0.hok I0.kIn
  have ln : ys.length ≤ sizeLine := by
    rw [← p.length]
    exact Nat.le_trans z.few (by decide)
  refine wpAny_setItem_heap (hsz := ln) (kroom hu) ⟨nis_is I0.hok I0.kIn hk rfl, hd⟩ m fun h1 m1 sb => ?_
  have ex : ∃ q, h1.get? d = some q := let ⟨q, _, _, hq, _⟩ := m1; ⟨q, hq⟩
  exact ⟨_, d_write (t' := s0.toks + (nestedKind X.prog X.w).draws k) I0 (by rw [z.at_]; exact True.intro) sb ex (kdO_ok (rows_put k b rv p) m1), q0⟩
theorem dset_kd {pins : List (Addr × Obj)} {σ : L2.St} {H : Hp} {s : Shared} {E : Value → Shared → Prop} {b d : Addr} {k : NestedKey} {xs : List Rw} {v : V} {u : Value} {Q : Unit → Shared → Prop} (hu : X.A.units + 16 < cLine) (I : Inv X pins σ H s) (hk : NIs X.K H k (.ref b)) (hd : k.depth ≤ 8) (z : KD X.prog X.w X.K H d xs)
    (rv : RelV v u) (q : ∀ s1, Inv X pins σ (upd H d (kdO X.prog X.w d (kPut xs k b v))) s1 → Q () s1) : wpAny (model X.prog X.w) X.A (dictSet d (.ref b) u) Q E s := by
  obtain ⟨ys, p, m⟩ := z.dict I.hok I.kIn
  have ln : ys.length ≤ sizeLine := by
    rw [← p.length]
    exact Nat.le_trans z.few (by decide)
  refine wpAny_dictSet_heap (knd := nestedKind X.prog X.w) (hsz := ln) (show X.A.units + 8 < cLine by omega) ⟨nis_is I.hok I.kIn hk rfl, hd⟩ m fun h1 m1 sb => q _ ?_
  have ex : ∃ q, h1.get? d = some q := let ⟨q, _, _, hq, _⟩ := m1; ⟨q, hq⟩
  exact d_write (t' := s.toks + (nestedKind X.prog X.w).draws k) I (by rw [z.at_]; exact True.intro) sb ex (kdO_ok (rows_put k b rv p) m1)
end
end Ld
/-! {k: v for ..}, the keys tuples of any depth. -/
namespace Ld
open L2 PySem PySem.Spec PyProof.Rows
/-- one more row -/
def moreN (P : Program) (w : World) (K : PySem.W.Frag) (D : Addr) (y z : V) (H : Hp) (Nx : Hp → Prop) : Prop := ∃ (b : Addr) (k : NestedKey) (rs : List Rw), y = .ref b ∧ NIs K H k (.ref b) ∧ k.depth ≤ 8 ∧ KD P w K H D rs ∧ Nx (upd H D (kdO P w D (kPut rs k b z)))
def tDcN (P : Program) (w : World) (K : PySem.W.Frag) (wi : TI) (g : TG) (tk tv : TE) (own : List Nat) : TE := fun σ H Q => wi σ H fun J H1 => ∀ D, H1 D = none → (D == sysModules) = false → ∃ W : Nat → Nat → Hp → Prop, (∃ m, W 0 m (upd H1 D (kdO P w D []))) ∧ ∀ i m G, W i m G →
  (J.stop i G ∧ Q (.ref D) G) ∨ (J.go i G ∧ ∃ Nx : Hp → Prop, (∀ G', Nx G' → ∃ m', m' < m ∧ W (i + 1) m' G') ∧ ∀ x G', J.yld i G x G' → g x (wipe σ own) G' fun σ2 G2 => wipe σ2 own = wipe σ own ∧ tk σ2 G2 fun y G4 => tv σ2 G4 fun z G5 => moreN P w K D y z G5 Nx)
section
variable {X : Cx}
theorem dcN_core {pins0 : List (Addr × Obj)} {s0 : Shared} {σ0 : L2.St} {H0 : Hp} {Q0 : VK} {kx vx tg iter : Expr} {scope : Scope} {own : List (Str × Nat)} {pos pos2 : Pos} {wi : TI} {g : TG} {tk tv : TE} {use : Option (Value → Sem Unit)} {Qf : Value → Shared → Prop} (hu : X.A.units + 16 < cLine) (hc : X.calm = true) (hN : X.N.Nodup)
    (I0 : Inv X pins0 σ0 H0 s0) (hi : PI X tg iter wi) (ok : BlkOk X.N X.env.scope scope own)
    (hg : ∀ (s : Shared) (H : Hp) (C : Addr) (cl : List (Str × Addr)) (fp : List Addr), PG (X.blk s H scope (compEnvC scope cl C X.env) fp) tg g)
    (hk : ∀ (s9 : Shared) (H9 : Hp) (C9 : Addr) (cl : List (Str × Addr)) (fp : List Addr), PE (X.blk s9 H9 scope (compEnvC scope cl C9 X.env) fp) kx tk)
    (he : ∀ (s9 : Shared) (H9 : Hp) (C9 : Addr) (cl : List (Str × Addr)) (fp : List Addr), PE (X.blk s9 H9 scope (compEnvC scope cl C9 X.env) fp) vx tv) (hs : ∀ x, foldedSetIterable iter X.env x = pure x)
    (h0 : tDcN X.prog X.w X.K wi g tk tv (own.map (·.2)) σ0 H0 Q0)
    (back : ∀ D C s' m H', Inv X pins0 σ0 H' s' → Q0 (.ref D) H' → s'.heap.Ns C m → FpOk X pins0 H' C → compPost (model X.prog X.w) X.A X.xe use Qf (.ref D) C (.ok .next) s') :
    wpAny (model X.prog X.w) X.A (comprehension (.DictComp kx vx [⟨tg, iter, [], 0⟩] scope pos) scope X.env pos2 newDict false (eval iter X.env) use) Qf X.xe s0 := by
  have cells0 : ∀ y ∈ scope.names, y.2 = .free → ∃ c, X.env.cells.lookup y.1 = some c := fun y hy e => (ok.free y hy e).elim (fun q => I0.ok.has _ (.inl q)) fun q => I0.ok.has _ (.inr q)
  refine wpAny_comprehension_free (use := use) rfl hs (closure_ok cells0) ok.kind (fun y hy e => by rw [ok.uniq y hy, e]) (thn (hi.run pins0 s0 σ0 H0 _ I0 h0) fun xv s1 hx => thn hx fun itv s2 h2 => ?_)
  obtain ⟨it, fp, tn, J, H2, e2, I2, T, st2, f2, q2⟩ := h2
  subst e2
  refine wpAny_newObj_type (newEnv_comp ?block); have low2 : (s2.heap.objs.size == sysModules) = false := beq_eq_false_iff_ne.mpr (Nat.ne_of_gt I2.big)
  obtain ⟨W, ⟨m0, w0⟩, turn⟩ := q2 _ I2.fresh low2
  have J3 : Inv X pins0 σ0 (upd H2 s2.heap.objs.size (kdO X.prog X.w s2.heap.objs.size [])) { s2 with heap := s2.heap.push { cls := .type "dict", data := .dict #[] } } :=
    I2.laid (t' := s2.toks) (fun b0 o0 q => Heap.get?_push_of_some _ q) (Nat.le_refl _) (kdO_ok .nil (Heap.DictOfH.new s2.heap))
  have old2 : ∀ b ∈ fp, b < s2.heap.objs.size := fun b hb => let ⟨_, e, _⟩ := T.obj _ _ st2 b hb; Heap.lt_size e
  have fp3 : ∀ b ∈ fp, FpOk X pins0 (upd H2 s2.heap.objs.size (kdO X.prog X.w s2.heap.objs.size [])) b ∧ b < (s2.heap.push { cls := .type "dict", data := .dict #[] }).objs.size := fun b hb =>
    ⟨⟨by rw [upd_ne (Nat.ne_of_lt (old2 b hb))]; exact (f2 b hb).1, (f2 b hb).2⟩, by rw [Heap.size_push]; exact Nat.lt_succ_of_lt (old2 b hb)⟩
  have st3 : tn 0 (s2.heap.push { cls := .type "dict", data := .dict #[] }) := T.keep _ _ _ st2 fun b _ o e => Heap.get?_push_of_some _ e
  generalize hD : s2.heap.objs.size = D at *
  generalize hH3 : upd H2 D (kdO X.prog X.w D []) = H3 at *
  generalize hs3 : ({ s2 with heap := s2.heap.push { cls := .type "dict", data := .dict #[] } } : Shared) = s3 at J3 ⊢
  have hp3 : s3.heap = s2.heap.push { cls := .type "dict", data := .dict #[] } := by rw [← hs3]
  rw [← hp3] at fp3 st3
  have B4 := block_start J3 ok hN fp3
  have gg := hg s3 H3 s3.heap.objs.size (cellsFrom (s3.heap.objs.size + 1) scope.names (cloFrom X.env.cells scope.names [])) fp
  have gk := hk s3 H3 s3.heap.objs.size (cellsFrom (s3.heap.objs.size + 1) scope.names (cloFrom X.env.cells scope.names [])) fp
  have ge := he s3 H3 s3.heap.objs.size (cellsFrom (s3.heap.objs.size + 1) scope.names (cloFrom X.env.cells scope.names [])) fp
  show codeAny _ _ (.compStart (.DictComp kx vx [⟨tg, iter, [], 0⟩] scope pos) 0 (.ref it) (.ref D) (compEnvC scope (cellsFrom (s3.heap.objs.size + 1) scope.names (cloFrom X.env.cells scope.names [])) s3.heap.objs.size X.env)) (compPost (model X.prog X.w) X.A X.xe use Qf (.ref D) s3.heap.objs.size) { s3 with heap := pushCells (s3.heap.push { cls := .type "dict", data := .dict #[] }) scope.names }
  generalize hce : compEnvC scope (cellsFrom (s3.heap.objs.size + 1) scope.names (cloFrom X.env.cells scope.names [])) s3.heap.objs.size X.env = ce at B4 gg gk ge ⊢
  have ceL : ce.locals = s3.heap.objs.size := by rw [← hce]; rfl
  generalize hs4 : ({ s3 with heap := pushCells (s3.heap.push { cls := .type "dict", data := .dict #[] }) scope.names } : Shared) = s4 at B4 ⊢
  have st4 : tn 0 s4.heap := T.keep _ _ _ st3 fun b0 _ o0 e0 => by rw [← hs4]; exact pushCells_keeps _ _ _ _ (Heap.get?_push_of_some _ e0)
  have apart : ∀ {σ' : L2.St} {H' : Hp} {s' : Shared}, Inv (X.blk s3 H3 scope ce fp) [] σ' H' s' → (∀ b ∈ fp, H' b = none) → ∀ b ∈ fp, FpOk (X.blk s3 H3 scope ce fp) [] H' b := fun {σ' H' s'} I' hn b hb =>
    ⟨hn b hb, (I'.ok.exf b hb).1, I'.ok.exfs b hb, .inl hb, (I'.ok.exf b hb).2, fun q hq => absurd (show q ∈ ([] : List (Addr × Obj)) ++ [] from hq) (by simp)⟩
  have loop : codeAny (model X.prog X.w) X.A (.compLoop (.DictComp kx vx [⟨tg, iter, [], 0⟩] scope pos) 0 (.ref it) (.ref D) ce) (compPost (model X.prog X.w) X.A X.xe use Qf (.ref D) s3.heap.objs.size) s4 := by
    refine compLoop_anyD (fun n s' => ∃ i G, Inv (X.blk s3 H3 scope ce fp) [] (wipe σ0 (own.map (·.2))) G s' ∧ tn i s'.heap ∧ (∀ b ∈ fp, G b = none) ∧ W i n G) ?_ m0 ⟨0, H3, B4, st4, fun b hb => (fp3 b hb).1.1, w0⟩
    rintro n s5 ⟨i, G, B5, st5, n5, w5⟩
    rcases turn i n G w5 with ⟨stop, qq⟩ | ⟨go, Nx, hNx, step⟩
    · refine thnF (T.done (X.blk s3 H3 scope ce fp) rfl rfl rfl hc i [] s5 _ G (fun _ _ => False) B5 (apart B5 n5) st5 stop) fun r s6 ⟨hr, B6⟩ => ?_
      subst hr
      have I7 : Inv X pins0 σ0 G s6 := J3.call' (ch := fp) B6.os B6.base B6.hok B6.bare fun b hb => ⟨(fp3 b hb).1.2.2.2.1, (fp3 b hb).1.2.1, (fp3 b hb).1.2.2.2.2.1, (fp3 b hb).1.2.2.2.2.2⟩
      have nC : G s3.heap.objs.size = none := by
        have z : G ce.locals = none := B6.free
        rw [ceL] at z
        exact z
      obtain ⟨m, hn, _⟩ := B6.loc
      have hn : s6.heap.Ns s3.heap.objs.size m := ceL ▸ (show s6.heap.Ns ce.locals m from hn)
      exact back D s3.heap.objs.size s6 m G I7 qq hn (J3.fpOk (Nat.le_refl _) nC)
    · refine thnF (T.item (X.blk s3 H3 scope ce fp) rfl rfl rfl hc i [] s5 _ G (fun _ _ => False) B5 (apart B5 n5) st5 go) fun r s6 ⟨u, hr, h6⟩ => ?_
      subst hr
      refine thnF h6 fun _ s7 ⟨x, G7, B7, r7, y7, st7, n7⟩ => ?_
      refine thnF (gg.run _ s7 _ G7 x u _ (B7.pinned (apart B7 n7) (T.obj _ _ st7)) r7 (step x G7 y7)) fun _ s8 ⟨σ8, G8, B8, hw8, q8⟩ => ?_
      refine thnF ((pts_nil (X := X.blk s3 H3 scope ce fp)).run _ s8 σ8 G8 (fun b G9 => b = true ∧ G9 = G8) B8 ⟨rfl, rfl⟩) fun b s9 ⟨G9, B9, eb, eG⟩ => ?_
      subst eb eG
      refine thnF (gk.run _ s9 σ8 _ _ B9 q8) fun z1 s10 ⟨yk, G10, B10, r10, q10⟩ => ?_
      refine thnF (ge.run _ s10 σ8 G10 _ B10 q10) fun z2 s11 ⟨yv, G11, B11, r11, kb, kk, rs, ek, hkk, hkd, hkD, nx⟩ => ?_
      subst ek
      cases r10
      refine dset_kd (X := X.blk s3 H3 scope ce fp) hu B11 hkk hkd hkD r11 fun s12 B12 => ?_
      obtain ⟨m', hm, w'⟩ := hNx _ nx
      have pin' : ∀ b ∈ fp, ∀ o, s7.heap.get? b = some o → s12.heap.get? b = some o ∧ (upd G11 D (kdO X.prog X.w D (kPut rs kk kb yv))) b = none := fun b hb o e =>
        let z := B12.pin (b, o) (List.mem_append_right _ (List.mem_append_right _ (mem_pinsAt hb e)))
        ⟨z.1, z.2.1⟩
      have hl : (wipe σ0 (own.map (·.2))).length = σ8.length := by rw [← hw8, wipe_length]
      refine ⟨m', hm, i + 1, _, (B12.unpinned (pins := [])).weak hl (fun j v e => ?_), T.keep _ _ _ st7 fun b hb o e => (pin' b hb o e).1, fun b hb => ?_, w'⟩
      · rw [← hw8] at e
        exact (wipe_some e).1
      · exact let ⟨o7, e7, _⟩ := T.obj _ _ st7 b hb; (pin' b hb o7 e7).2
  exact codeAny_compStart_dict loop  (T.self (X.A) 0 _ _ _ (st4) loop)
theorem pe_dcN {kx vx tg iter : Expr} {scope : Scope} {own : List (Str × Nat)} {pos : Pos} {wi : TI} {g : TG} {tk tv : TE} (hu : X.A.units + 16 < cLine) (hc : X.calm = true) (hN : X.N.Nodup) (hi : PI X tg iter wi) (ok : BlkOk X.N X.env.scope scope own)
    (hg : ∀ (s : Shared) (H : Hp) (C : Addr) (cl : List (Str × Addr)) (fp : List Addr), PG (X.blk s H scope (compEnvC scope cl C X.env) fp) tg g)
    (hk : ∀ (s9 : Shared) (H9 : Hp) (C9 : Addr) (cl : List (Str × Addr)) (fp : List Addr), PE (X.blk s9 H9 scope (compEnvC scope cl C9 X.env) fp) kx tk)
    (he : ∀ (s9 : Shared) (H9 : Hp) (C9 : Addr) (cl : List (Str × Addr)) (fp : List Addr), PE (X.blk s9 H9 scope (compEnvC scope cl C9 X.env) fp) vx tv) (hs : ∀ x, foldedSetIterable iter X.env x = pure x := by intro _; rfl) :
    PE X (.DictComp kx vx [⟨tg, iter, [], 0⟩] scope pos) (tDcN X.prog X.w X.K wi g tk tv (own.map (·.2))) := by
  refine ⟨fun pins0 s0 σ0 H0 Q0 I0 h0 => ?_⟩
  rw [arm_eval_DictComp]
  refine dcN_core hu hc hN I0 hi ok hg hk he hs h0 fun D C s1 m G I1 q hn f => ⟨m, hn, fun h2 sb => ?_⟩
  obtain ⟨f0, f1, f2', f3, f4, f5⟩ := f
  exact ⟨.ref D, G, I1.turned (t' := s1.toks) (fun b o hb e => (sb.2 b hb).trans e) f0 f1 f3 f4 f5, rfl, q⟩
/-- name = {..} on one line -/
theorem ps_setDcN {i : Nat} {y : Str} {py : Pos} {kx vx tg iter : Expr} {scope : Scope} {own : List (Str × Nat)} {pos spos : Pos} {wi : TI} {g : TG} {tk tv : TE} (hu : X.A.units + 16 < cLine) (hc : X.calm = true) (hN : X.N.Nodup) (hy : X.N[i]? = some y) (hyl : X.env.scope.names.lookup y = some .local)
    (hsw : swapsWith (.DictComp kx vx [⟨tg, iter, [], 0⟩] scope pos) (some (.Name y py)) spos.line X.env = pure true) (hi : PI X tg iter wi) (ok : BlkOk X.N X.env.scope scope own)
    (hg : ∀ (s : Shared) (H : Hp) (C : Addr) (cl : List (Str × Addr)) (fp : List Addr), PG (X.blk s H scope (compEnvC scope cl C X.env) fp) tg g)
    (hk : ∀ (s9 : Shared) (H9 : Hp) (C9 : Addr) (cl : List (Str × Addr)) (fp : List Addr), PE (X.blk s9 H9 scope (compEnvC scope cl C9 X.env) fp) kx tk)
    (he : ∀ (s9 : Shared) (H9 : Hp) (C9 : Addr) (cl : List (Str × Addr)) (fp : List Addr), PE (X.blk s9 H9 scope (compEnvC scope cl C9 X.env) fp) vx tv) (hs : ∀ x, foldedSetIterable iter X.env x = pure x := by intro _; rfl) :
    PS X (.Assign [.Name y py] (.DictComp kx vx [⟨tg, iter, [], 0⟩] scope pos) spos) (tAsg (tDcN X.prog X.w X.K wi g tk tv (own.map (·.2))) (gName i)) := by
  refine ⟨fun pins0 s0 σ0 H0 D0 I0 h0 => ?_⟩
  rw [exec_Assign_Name_used _ _ _ _ hsw]; refine wpAny_bind (wpAny_standAt (wpAny_bind (m := evalThenUse _ _ _) ?_))
  show wpAny _ X.A (do let _ ← comprehension (.DictComp kx vx [⟨tg, iter, [], 0⟩] scope pos) scope X.env (firstIterPos [⟨tg, iter, [], 0⟩] pos) newDict false (eval iter X.env) (some (assign (.Name y py) X.env))) _ _ s0
  have h1 : tDcN X.prog X.w X.K wi g tk tv (own.map (·.2)) σ0 H0 (fun x H1 => gName i x σ0 H1 D0.nx) := h0
  refine wpAny_bind (thn (dcN_core (Qf := fun _ s' => SP X pins0 D0 .next s') hu hc hN I0 hi ok hg hk he hs h1 fun L C s1 m G I1 q hn f => ?_) fun _ s' hq => wpAny_pure (wpAny_pure hq))
  show wpAny _ _ (assign (.Name y py) X.env (.ref L)) _ _ _; refine wpAny_assign_Name (store_ok2 (v := V.ref L) I1 hN hy (.inl hyl) rfl (fun s2 I2 ⟨a, sb, ha⟩ => ?_) (.inr hyl))
  obtain ⟨f0, f1, f2', f3, f4, f5⟩ := f
  have ne : C ≠ a := ha.elim (fun z => z ▸ f1) fun z e => f4 y a z e.symm
  exact ⟨m, hn.sameBut sb ne, fun h3 sb3 => ⟨_, G, I2.turned (t' := s2.toks) (fun b o hb e => (sb3.2 b hb).trans e) f0 f1 f3 f4 f5, q⟩⟩
theorem sw_dict {kx vx : Expr} {gs : List Comprehension} {scope : Scope} {pos py : Pos} {y : Str} {l : Nat} {env : Env} (hk : env.scope.kind = .function) (hy : env.scope.names.lookup y = some .local) (hl : (py.line == pos.line) = true)
    (ha : (scope.names.any fun (n, k) => n == y && (k == .local || k == .cell)) = false) : swapsWith (.DictComp kx vx gs scope pos) (some (.Name y py)) l env = pure true := by
  have ky : env.kindOf y = some .local := hy; have bk : env.blockKind = .function := by unfold Env.blockKind; rw [hk]; rfl
  unfold swapsWith
  simp only [bk, ky, ha, Expr.pos, hl]
  rfl
end
end Ld
/-! len, ==, != by defs of one's own; len(d), list(d.values()) of dicts whose keys hold tuples. -/
namespace Ld
open PySem L2 PyProof.Rows
section
variable {X : Cx} {A : Around} {k : Nat} {f C : Addr} {fd : FuncData} {ps : List Str} {sp : Sp}
theorem run_own {pins : List (Addr × Obj)} {σ : L2.St} {H : Hp} {s : Shared} {Q : VK} {E : Value → Shared → Prop} {us : List Value} {vs : List V} (F : FnOk X.prog X.w X.K X.mg X.base CX0 k f fd ps sp) (hb : Binds X.K fd ps []) (hr : Room k A) (fr : A.frames = X.A.frames)
    (I : Inv X pins σ H s) (r : Vals vs us) (h : sp vs H Q E0) : wpAny (model X.prog X.w) A (call (.ref f) us) (EP X pins σ Q) E s := by
  have e1 := I.env0
  have e0 : Env0 X.prog X.w X.K X.mg X.base A X.stack s H := ⟨fr.trans e1.frames, e1.mod, e1.bs, e1.bsz, e1.funs, e1.frf, e1.hok, e1.bare⟩
  have hl : (us ++ []).length = ps.length := by
    rw [List.append_nil, ← r.length]
    exact F.len _ _ _ _ h
  have b := hb s us I.kIn hl
  rw [List.append_nil] at b
  refine wpAny_call (codeAny_mono (F.run A X.stack s H ⟨us, []⟩ us vs Q E0 hr e0 b r h) fun z s2 hz => ?_)
  match z, hz with
  | .ok (.ret v), hz => exact I.after hz
  | .ok .next, hz => exact False.elim hz
  | .ok .brk, hz => exact False.elim hz
  | .ok .cont, hz => exact False.elim hz
  | .error er, hz => exact False.elim hz
/-- len(x), by its own __len__ -/
def rLenO (C : Addr) (sp : Sp) : List V → Hp → VK → Prop := fun xs H Q => ∃ a dx fs, xs = [.ref a] ∧ H a = some (.ins C dx fs) ∧ sp [.ref a] H (fun v H2 => ∃ n : Nat, v = .int n ∧ n ≤ sizeLine ∧ Q v H2) E0
theorem call_lenO (hs : PySem.W.findIn X.K (.ref C) "__len__" = some (some (.ref f))) (hf : PySem.W.isFn X.K (.ref f) = true) (F : FnOk X.prog X.w X.K X.mg X.base CX0 k f fd ps sp) (hr : Room (k + 1) X.A) (hb : Binds X.K fd ps []) : CallR X (.builtin "len") (rLenO C sp) := by
  intro pins s σ H xs us Q I r ⟨a, dx, fs, e, ha, q⟩
  subst e
  obtain ⟨u0, rfl, rx⟩ := vals1 r
  cases rx
  obtain ⟨mA0, J, _⟩ := ins_get I.hok ha
  obtain ⟨od, J, _⟩ := J.look
  obtain ⟨m, hF⟩ := I.fr
  refine PySem.W.len_K hF I.ok.mod.kin J hs hf (wpAny_mono (run_own (vs := [.ref a]) F hb hr.in1 rfl I (.cons rfl .nil) q) (fun v s' z => ?_) fun _ _ z => z)
  obtain ⟨y, H2, I2, ry, n, e, hn, q2⟩ := z
  subst e
  obtain ⟨t, rfl⟩ := ry
  have big : (n : Int) < 2 ^ 63 := Int.lt_of_le_of_lt (Int.ofNat_le.mpr hn) (by decide)
  exact ⟨⟨by omega, big⟩, .int n, H2, I2.tok _, ⟨_, rfl⟩, q2⟩
/-- x == y, by an own __eq__ -/
def rEqO (C : Addr) (neg : Bool) (sp : Sp) : R2 := fun x y H Q => ∃ a dx fs b dy gs, x = .ref a ∧ y = .ref b ∧ H a = some (.ins C dx fs) ∧ H b = some (.ins C dy gs) ∧ sp [x, y] H (fun v H2 => ∃ t, v = .bl t ∧ Q (.bl (if neg then !t else t)) H2) E0
theorem op_eqO (hs : PySem.W.findIn X.K (.ref C) "__eq__" = some (some (.ref f))) (hf : PySem.W.isFn X.K (.ref f) = true) (F : FnOk X.prog X.w X.K X.mg X.base CX0 k f fd ps sp) (hr : Room k X.A) (hb : Binds X.K fd ps []) : OpR X (compareOp .Eq) (rEqO C false sp) := by
  intro pins s σ H x y v u Q I rx ry ⟨a, dx, fs, b, dy, gs, e1, e2, ha, hc, q⟩
  subst e1 e2
  cases rx
  cases ry
  obtain ⟨mA0, J, _⟩ := ins_get I.hok ha
  obtain ⟨od, J, _⟩ := J.look
  obtain ⟨mB, J2, _⟩ := ins_get I.hok hc
  obtain ⟨od2, J2, _⟩ := J2.look
  obtain ⟨m, hF⟩ := I.fr
  show wpAny (model X.prog X.w) X.A (richCompare .Eq (.ref a) (.ref b)) (EP X pins σ Q) X.xe s
  refine PySem.W.cmp_K (op := .Eq) (tb := .ref C) hr.units0 hF I.ok.mod.kin J J2.type (by simp [PySem.W.notFirst]) hs hf (wpAny_mono (run_own (vs := [.ref a, .ref b]) F hb hr rfl I (.cons rfl (.cons rfl .nil)) q) (fun v s' z => ?_) fun _ _ z => z)
  obtain ⟨y, H2, I2, ry, t, e, q2⟩ := z
  subst e
  cases ry
  exact ⟨.bl t, H2, I2, rfl, q2⟩
/-- the class has object's own != -/
structure NeO (K : PySem.W.Frag) (C f : Addr) : Prop where
  ne : PySem.W.findIn K (.ref C) "__ne__" = some (some (.builtin "object.__ne__"))
  sub : PySem.W.subIn K (.ref C) (.type "object") = some true
  eq : PySem.W.findIn K (.ref C) "__eq__" = some (some (.ref f))
  fd : PySem.W.isFn K (.ref f) = true
theorem bound_b {M : Model} {A : Around} {E : Value → Shared → Prop} {s : Shared} {K : PySem.W.Frag} {x C : Addr} {ox : Obj} {od : Option Obj} {name : Str} {i : String} {args : List Value} {Q : Option Value → Shared → Prop} (hin : K.In s.heap) (I : PySem.W.InstAt s.heap x ox C od)
    (hs : PySem.W.findIn K (.ref C) name = some (some (.builtin i))) (hb : bindSpecial (.builtin i) (.ref x) = pure (.builtin i, [.ref x])) (h : wpAny M A (call (.builtin i) (.ref x :: args)) (fun v => Q (some v)) E s) : wpAny M A (callSpecialIfBound? (.ref x) name args) Q E s := by
  simp only [bindSpecialIfBound?, callSpecialIfBound?]
  refine wpAny_holding (wpAny_bind (wpAny_bind (wpAny_bind (I.type.here ((PySem.W.looks_findIn hin hs).here ?_)))))
  have fin : wpAny M A (call (.builtin i) ([.ref x] ++ args) >>= fun v => pure (some v)) Q E s := wpAny_bind (wpAny_mono h (fun v s' z => wpAny_pure z) fun _ _ z => z)
  refine wpAny_bind (wpAny_askSetting (wpAny_ite ?_)); split
  · exact wpAny_bind ((PySem.W.Looks.of_pure hb).here (wpAny_pure (by exact fin)))
  · exact wpAny_tryCatch (wpAny_bind ((PySem.W.Looks.of_pure hb).here (wpAny_pure (by exact fin))))
theorem ne_own {P : Program} {w : World} {A : Around} {E : Value → Shared → Prop} {s : Shared} {K : PySem.W.Frag} {x C f : Addr} {ox : Obj} {od : Option Obj} {b : Value} {Q : Value → Shared → Prop} (Z : NeO K C f) (hu : A.units + 1 < cLine) (hin : K.In s.heap) (I : PySem.W.InstAt s.heap x ox C od)
    (hb : PySem.W.Looks (model P w) s.heap (typeOf b) (.ref C)) (h : wpAny (model P w) A.in1 (call (.ref f) [.ref x, b]) (fun v s' => ∃ t, v = .bool t ∧ Q (.bool (!t)) s') E s) : wpAny (model P w) A (richCompare .NotEq (.ref x) b) Q E s := by
  have entry : wpAny (model P w) A.in1 (Builtin.«object.__ne__» ⟨[.ref x, b], []⟩) (fun fin s' => ∃ v, fin = .done (.ret v) ∧ v ≠ .notImplemented ∧ Q v s') E s := by
    unfold Builtin.«object.__ne__»; repeat (first
      | with_reducible refine wpAny_cRoomFor (show A.in1.units < cLine from hu) ?_
      | (refine wpAny_bind (m := callSpecialIfBound? (.ref x) (Str.ofString "__eq__") [b]) (PySem.W.ifBound_K hin I Z.eq Z.fd (wpAny_mono h (fun r s' hr => by
            obtain ⟨t, rfl, hq⟩ := hr
            repeat (first | exact ⟨_, rfl, (fun z => nomatch z), hq⟩ | exact wpAny_pure ⟨_, rfl, (fun z => nomatch z), hq⟩ | (refine wpAny_bind (m := truthy (.bool _)) (wpAny_truthy_bool ?_)) | wp_step)) fun _ _ e => e)))
      | wp_step)
  have one : wpAny (model P w) A (tryCompare (.ref x) "__ne__" b) (fun r s' => ∃ v, r = some v ∧ Q v s') E s := by
    unfold tryCompare
    refine wpAny_bind (bound_b hin I Z.ne rfl (wpAny_call (codeAny_call_builtin PySem.F.cmp_object.ne.plain F.cmpEntry_ne (PySem.W.check_slot F.cmpKind_ne F.cmpSplit_ne (I.type.andThen (PySem.W.looks_subIn hin Z.sub)) (F.cmpArgs_ne _ _) (wpAny_mono entry (fun fin s' z => ?_) fun _ _ z => z)))))
    obtain ⟨v, rfl, nv, q⟩ := z
    cases v <;> first | exact absurd rfl nv | exact ⟨_, rfl, q⟩ | exact wpAny_pure ⟨_, rfl, q⟩
  unfold richCompare
  simp only [oneThing_ref]
  refine wpAny_holding (wpAny_bind (wpAny_cRoomFor (Nat.lt_of_succ_lt hu) ?_))
  refine wpAny_bind (I.type.here (wpAny_bind (hb.here ?_))); rw [show (Value.ref C != Value.ref C) = false from by simp]; refine wpAny_bind (wpAny_pure ?_); simp only [Bool.false_eq_true, if_false]
  refine wpAny_bind (wpAny_mono one (fun r s' z => ?_) fun _ _ z => z)
  obtain ⟨v, rfl, q⟩ := z
  exact wpAny_pure q
theorem op_neO (Z : NeO X.K C f) (F : FnOk X.prog X.w X.K X.mg X.base CX0 k f fd ps sp) (hr : Room (k + 1) X.A) (hb : Binds X.K fd ps []) : OpR X (compareOp .NotEq) (rEqO C true sp) := by
  intro pins s σ H x y v u Q I rx ry ⟨a, dx, fs, b, dy, gs, e1, e2, ha, hc, q⟩
  subst e1 e2
  cases rx
  cases ry
  obtain ⟨mA0, J, _⟩ := ins_get I.hok ha
  obtain ⟨od, J, _⟩ := J.look
  obtain ⟨mB, J2, _⟩ := ins_get I.hok hc
  obtain ⟨od2, J2, _⟩ := J2.look
  show wpAny (model X.prog X.w) X.A (richCompare .NotEq (.ref a) (.ref b)) (EP X pins σ Q) X.xe s
  refine ne_own Z hr.in1.units0 I.kIn J J2.type (wpAny_mono (run_own (vs := [.ref a, .ref b]) F hb hr.in1 rfl I (.cons rfl (.cons rfl .nil)) q) (fun v s' z => ?_) fun _ _ z => z)
  obtain ⟨y, H2, I2, ry, t, e, q2⟩ := z
  subst e
  cases ry
  exact ⟨t, rfl, .bl (!t), H2, I2, rfl, q2⟩
/-! ### dicts -/
theorem rows_vals : ∀ {xs : List Rw} {ys : List (NestedKey × Addr × Value)}, Paired KR xs ys → Vals (xs.map (·.2.2)) (ys.map (·.2.2))
  | _, _, .nil => .nil
  | _, _, .cons a b => .cons a.2.2 (rows_vals b)
def rLenN (P : Program) (w : World) (K : PySem.W.Frag) : List V → Hp → VK → Prop := fun xs H Q => ∃ d rs, xs = [.ref d] ∧ KD P w K H d rs ∧ Q (.int (rs.length : Int)) H
theorem call_lenN : CallR X (.builtin "len") (rLenN X.prog X.w X.K) := by
  intro pins s σ H xs us Q I r ⟨d, rs, e, z, q⟩
  subst e
  obtain ⟨u0, rfl, rx⟩ := vals1 r
  cases rx
  obtain ⟨ys, p, m⟩ := z.dict I.hok I.kIn
  have few := z.few
  have ln := p.length
  refine call_len_dictH z.low m (Int.lt_of_le_of_lt (Int.ofNat_le.mpr (show ys.length ≤ 1000 by omega)) (by decide)) ?_
  rw [← ln]
  exact ⟨.int _, H, I.tok _, ⟨_, rfl⟩, q⟩
def tListVals (P : Program) (w : World) (K : PySem.W.Frag) (td : TE) : TE := fun σ H Q => td σ H fun x H1 => ∃ d rs, x = .ref d ∧ KD P w K H1 d rs ∧ ∀ l, H1 l = none → l ≠ sysModules → Q (.ref l) (upd H1 l (.lst (rs.map (·.2.2))))
theorem pe_listVals {o : Expr} {td : TE} {p pos apos mpos : Pos} (hc : X.calm = true) (hg : Gl X "list") (hm : X.mg "list" = none) (hd : PE X o td) (hbase : attributeBase o "values" X.env (eval o X.env) = eval o X.env := by rfl) (hline : (apos.endLine == mpos.line) = true := by rfl)
    (hst : starEach [Expr.Call (.Attribute o "values" apos) [] [] mpos] X.env = [(false, eval (Expr.Call (.Attribute o "values" apos) [] [] mpos) X.env)] := by rfl) : PE X (.Call (.Name "list" p) [.Call (.Attribute o "values" apos) [] [] mpos] [] pos) (tListVals X.prog X.w X.K td) := by
  refine ⟨fun pins s σ H Q I h => wpAny_Call_Name_kw (ld_blt I hg hm (u := .type "list") (by first | rfl | decide +kernel) ?_ (by first | decide +kernel | decide) (by first | decide +kernel | decide))⟩
  rw [hst]
  refine PySem.callWith_type1 (wpAny_Call_method0_late hbase hline (thn (hd.run pins s σ H _ I h) fun v s1 ⟨x, H1, I1, r1, d, rs, ex, z, q⟩ => ?_))
  subst ex
  obtain rfl : v = Value.ref d := r1
  obtain ⟨⟨ys, pr, ob, es, ep, ho, hx, hdt, he, hn⟩, _⟩ := (show ObjOk X.prog X.w H1 s1.heap d (kdO X.prog X.w d rs) from I1.hok d _ z.at_)
  have raw : s1.heap.DictRaw d es ep := ⟨ob, ho, hx, hdt⟩
  refine ⟨"dict", "dict.values", F.plainAttrs_dict, F.slot_dict_values, F.type_dict_values, ⟨ob, ho, hx.1⟩, fun b e => ?_, Calls.callWith_builtin rfl (PySem.evalArgs_none ?_)⟩
  · cases e
    exact ⟨ob, ho, hx.2.1⟩
  refine call_meetsIn F.slot_dict_values ⟨ob, ho, hx.1⟩ F.entry_dict_values (F.args_dict_values_1 _) (PySem.meets_dict_values_raw d z.low) ⟨⟨es, ep, raw⟩, ?_⟩
  have l1 : es.size = ys.length := size_of_entries he
  have l2 := pr.length
  have few := z.few
  have up : ∀ b u, s1.heap.get? b = some u → (s1.heap.push { cls := .type "dict_values", data := .fields #[.ref d] }).get? b = some u := fun b u e => Heap.get?_push_of_some _ e
  have sz : (s1.heap.push { cls := .type "dict_values", data := .fields #[.ref d] }).objs.size = s1.heap.objs.size + 1 := Heap.size_push _ _
  refine PySem.W.kdl_call (PySem.KdlSrc.rawValues (r := s1.heap.objs.size) (d := d) (es := es) (ep := ep)) (I1.ok.hd hc) ⟨⟨_, Heap.get?_push_size _ rfl, rfl, rfl⟩, raw.at fun o e => up _ _ e⟩ (Nat.le_trans (show es.size ≤ 1000 by omega) (by decide)) fun h' tk acc c kp e it => ?_
  have ea : acc.toList = ys.map (·.2.2) := by
    have hl : acc.toList.length = ys.length := by rw [Array.length_toList, it.1]; exact l1
    apply List.ext_getElem?
    intro j
    rw [List.getElem?_map]
    cases hj : acc.toList[j]? with
    | none =>
      have hn1 := List.getElem?_eq_none_iff.mp hj
      rw [List.getElem?_eq_none (by omega)]; rfl
    | some v =>
      obtain ⟨hi, hv⟩ := it.2 j v (by rw [← Array.getElem?_toList]; exact hj)
      have qe : es.toList[j]? = some es[j] := by simp [hi]
      rw [he, List.getElem?_map] at qe
      cases hb : ys[j]? with
      | none =>
        rw [hb] at qe
        cases qe
      | some y =>
        rw [hb] at qe
        have e2 : entryOfKey (nestedKind X.prog X.w) y = es[j] := Option.some.inj qe
        rw [hv, ← e2]
        rfl
  have rv : Vals (rs.map (·.2.2)) acc.toList := by
    rw [ea]
    exact rows_vals pr
  rw [sz] at e ⊢
  refine ⟨.ref (s1.heap.objs.size + 1), _, I1.laid (t' := tk) (a := s1.heap.objs.size + 1) (o := .lst (rs.map (·.2.2))) (fun b u q => kp b u (up b u q)) (Nat.le_succ _) ?_, rfl, q _ (I1.hok.fresh (Nat.le_succ _)) (Nat.ne_of_gt (Nat.lt_succ_of_lt I1.big))⟩
  exact ⟨Nat.le_trans (show (rs.map (·.2.2)).length ≤ 1000 by rw [List.length_map]; exact few) (by decide), acc.toList, c, rv, by rw [Array.toArray_toList]; exact e⟩
end
end Ld
/-! sorted(xs, key=f), f a def of one's own. -/
namespace Ld
open PySem L2 PyProof.Rows
section
variable {fs : List Addr} {H H1 : Hp} {h h1 h2 : Heap} {it : Addr} {P : Program} {w : World}
/-- what is new and not tracked may change -/
theorem un_but (u : Un fs [] H H1 h h1) (new : h.get? it = none) (k : ∀ b o, b ≠ it → h1.get? b = some o → h2.get? b = some o) : Un fs [] H H1 h h2 := by
  have ne : ∀ {b : Addr} {o : Obj}, h.get? b = some o → b ≠ it := fun e z => by
    rw [z, new] at e
    cases e
  refine ⟨fun b o e n hb hx => k b o (ne e) (u.keep b o e n hb hx), fun b o e n hb hx => ?_, u.free, fun b o e hx => ?_, u.tups, u.frzs, u.tbls⟩
  · obtain ⟨sl, q⟩ := u.slot b o e n hb hx
    exact ⟨sl, k b _ (ne e) q⟩
  · obtain ⟨o', q⟩ := u.there b o e hx
    exact ⟨o', k b _ (ne e) q⟩
theorem hok_but (ok : HOk P w H h) (n : H it = none) (k : ∀ b o, b ≠ it → h.get? b = some o → h1.get? b = some o) : HOk P w H h1 := fun a o e =>
  (ok a o e).stay (fun b u hb q => k b u (fun z => by
    rcases hb with hb | hb
    · rw [← hb, z, n] at e
      cases e
    · rw [z, n] at hb
      cases hb) q) (fun _ e => e) (fun _ _ e => e)
theorem un_but2 {jt : Addr} (u : Un fs [] H H1 h h1) (n1 : h.get? it = none) (n2 : h.get? jt = none) (k : ∀ b o, b ≠ it → b ≠ jt → h1.get? b = some o → h2.get? b = some o) : Un fs [] H H1 h h2 := by
  have e1 : ∀ {b : Addr} {o : Obj}, h.get? b = some o → b ≠ it := fun e z => by
    rw [z, n1] at e
    cases e
  have e2 : ∀ {b : Addr} {o : Obj}, h.get? b = some o → b ≠ jt := fun e z => by
    rw [z, n2] at e
    cases e
  refine ⟨fun b o e n hb hx => k b o (e1 e) (e2 e) (u.keep b o e n hb hx), fun b o e n hb hx => ?_, u.free, fun b o e hx => ?_, u.tups, u.frzs, u.tbls⟩
  · obtain ⟨sl, q⟩ := u.slot b o e n hb hx
    exact ⟨sl, k b _ (e1 e) (e2 e) q⟩
  · obtain ⟨o', q⟩ := u.there b o e hx
    exact ⟨o', k b _ (e1 e) (e2 e) q⟩
theorem hok_but2 {jt : Addr} (ok : HOk P w H h) (n : H it = none) (m : H jt = none) (k : ∀ b o, b ≠ it → b ≠ jt → h.get? b = some o → h1.get? b = some o) : HOk P w H h1 := fun a o e => by
  have ne : ∀ {c x : Addr} {u : Obj}, H x = none → (c = a ∨ H c = some (.own a)) → c ≠ x := fun hx hb z => by
    rcases hb with hb | hb
    · rw [← hb, z, hx] at e
      cases e
    · rw [z, hx] at hb
      cases hb
  exact (ok a o e).stay (fun b u hb q => k b u (ne (u := u) n hb) (ne (u := u) m hb) q) (fun _ e => e) (fun _ _ e => e)
/-- .. and be tracked -/
theorem un_put {o : HO} (u : Un fs [] H H1 h h1) (new : h.get? it = none) (n : H1 it = none) : Un fs [] H (upd H1 it o) h h1 := by
  have ne : ∀ {b : Addr} {o : HO}, H1 b = some o → b ≠ it := fun e z => by
    rw [z, n] at e
    cases e
  refine ⟨u.keep, u.slot, fun b o e m hx => ?_, u.there, fun b xs e => ?_, fun b o v e => ?_, fun b ps e => ?_⟩
  · rw [upd_ne (fun z => by rw [z, new] at e; cases e)]
    exact u.free b o e m hx
  · have q := u.tups b xs e
    rw [upd_ne (ne q)]
    exact q
  · have q := u.frzs b o v e
    rw [upd_ne (ne q)]
    exact q
  · obtain ⟨m, q⟩ := u.tbls b ps e
    exact ⟨m, by rw [upd_ne (ne q)]; exact q⟩
theorem hok_put {ys : List V} (ok : HOk P w H h) (n : H it = none) (new : ObjOk P w (upd H it (.lst ys)) h it (.lst ys)) : HOk P w (upd H it (.lst ys)) h := fun b u e => by
  by_cases z : b = it
  · subst z
    rw [upd_same] at e
    cases e
    exact new
  · rw [upd_ne z] at e
    have ne : ∀ {c : Addr} {o : HO}, H c = some o → c ≠ it := fun e z => by
      rw [z, n] at e
      cases e
    exact (ok b u e).stay (fun _ _ _ q => q) (fun c q => by rw [upd_ne (ne q)]; exact q) (fun c xs q => by rw [upd_ne (ne q)]; exact q)
end
/-! data without lists and dicts -/
mutual
def bareB : PyData → Bool
  | .list _ => false
  | .dict _ => false
  | .tuple ds => bareAll ds
  | _ => true
def bareAll : List PyData → Bool
  | [] => true
  | d :: ds => bareB d && bareAll ds
end
section
variable {P : Program} {w : World} {K : PySem.W.Frag} {H : Hp} {h : Heap}
mutual
theorem dp_bare (ok : HOk P w H h) (kin : K.In h) : ∀ (d : PyData) (v : V) (u : Value), bareB d = true → Dp K H v d → RelV v u → Reads h u d []
  | .none, _, _, _, z, r => by cases z; cases r; exact .none
  | .bool b, _, _, _, z, r => by cases z; cases r; exact .bool b
  | .int i, _, _, _, z, r => by cases z; obtain ⟨t, rfl⟩ := r; exact .int i t
  | .str x, _, _, _, z, r => by cases z; obtain ⟨t, rfl⟩ := r; exact .str x t
  | .list ds, _, _, e, _, _ => by cases e
  | .dict ds, _, _, e, _, _ => by cases e
  | .tuple ds, _, _, e, z, r => by
    cases z with
    | tup hs ha =>
      cases r
      rcases hs with hs | ⟨o, its, n, hk, hc, hs, hz, rv⟩
      · obtain ⟨z, its, rv, o, e', c, n, dt⟩ := hs.ok ok
        exact .tuple e' c dt (dpAll_bare ok kin ds _ _ e ha rv)
      · exact .tuple (kin _ o hk) hc hs (dpAll_bare ok kin ds _ _ e ha rv)
theorem dpAll_bare (ok : HOk P w H h) (kin : K.In h) : ∀ (ds : List PyData) (vs : List V) (us : List Value), bareAll ds = true → DpAll K H vs ds → Vals vs us → ReadsAll h us ds []
  | [], _, _, _, z, r => by cases z; cases r; exact .nil
  | d :: ds, _, _, e, z, r => by
    have e2 := Bool.and_eq_true_iff.mp (show (bareB d && bareAll ds) = true from e)
    cases z with
    | cons a b =>
      cases r with
      | cons r1 r2 => exact .cons (as := []) (bs := []) (dp_bare ok kin d _ _ e2.1 a r1) (dpAll_bare ok kin ds _ _ e2.2 b r2)
end
end
/-! ### the sort goes on -/
/-- since s only new objects are tracked -/
structure Since (X : Cx) (H : Hp) (s : Shared) (H1 : Hp) (s1 : Shared) : Prop where
  os : s1.os = s.os
  bare : AllBare s1.gens
  un : Un (frs X.stack) [] H H1 s.heap s1.heap
  hok : HOk X.prog X.w H1 s1.heap
  same : Same H H1
theorem Since.inv {X : Cx} {pins : List (Addr × Obj)} {σ : L2.St} {H H1 : Hp} {s s1 : Shared} (J : Since X H s H1 s1) (I : Inv X pins σ H s) : Inv X pins σ H1 s1 := by
  obtain ⟨hp, g, d, t, os⟩ := s1
  obtain rfl : os = s.os := J.os
  exact I.call (h' := hp) (g' := g) (d' := d) (t' := t) (ch := []) J.un J.hok J.bare (fun b z => absurd z (by simp))
section
variable {X : Cx} {pins : List (Addr × Obj)} {σ : L2.St} {H H1 : Hp} {s s1 : Shared} {A : Around} {j : Nat} {f : Addr} {fd : FuncData} {p : Str} {sp : Sp}
theorem Since.call (J : Since X H s H1 s1) (I : Inv X pins σ H s) (F : FnOk X.prog X.w X.K X.mg X.base CX0 j f fd [p] sp) (hr : Room j A) (fr : A.frames = X.A.frames) (hb : Binds X.K fd [p] []) {x : V} {u : Value} {k : PyData} (rx : RelV x u)
    (hsp : sp [x] H1 (fun v H2 => Same H1 H2 ∧ Dp X.K H2 v k) E0) :
    wpAny (model X.prog X.w) A (call (.ref f) [u]) (fun v s2 => ∃ (H2 : Hp) (y : V), Since X H s H2 s2 ∧ Same H1 H2 ∧ (∀ b o, s1.heap.get? b = some o → H1 b = none → b ∉ frs X.stack → s2.heap.get? b = some o ∧ H2 b = none) ∧ RelV y v ∧ Dp X.K H2 y k) (fun _ _ => False) s1 := by
  have I1 := J.inv I
  have e1 := I1.env0
  have e0 : Env0 X.prog X.w X.K X.mg X.base A X.stack s1 H1 := ⟨fr.trans e1.frames, e1.mod, e1.bs, e1.bsz, e1.funs, e1.frf, e1.hok, e1.bare⟩
  have b := hb s1 [u] I1.kIn rfl
  refine wpAny_call (codeAny_mono (F.run A X.stack s1 H1 ⟨[u], []⟩ [u] [x] _ E0 hr e0 b (.cons rx .nil) hsp) fun z s2 hz => ?_)
  match z, hz with
  | .ok (.ret v), hz =>
    obtain ⟨y, H2, os, bare, un, hok, r, s12, dp⟩ := hz
    exact ⟨H2, y, ⟨os.trans J.os, bare, J.un.trans un, hok, J.same.trans s12⟩, s12, fun b o e n nf => ⟨un.keep b o e n nf (by simp), un.free b o e n (by simp)⟩, r, dp⟩
  | .ok .next, hz => exact False.elim hz
  | .ok .brk, hz => exact False.elim hz
  | .ok .cont, hz => exact False.elim hz
  | .error er, hz => exact False.elim hz
end
end Ld
/-! sorted(xs, key=f), f a def of one's own: the call. -/
namespace Ld
open PySem L2 PyProof.Rows PySem.W
/-- a key that is known: data that stands -/
def Kd (K : PySem.W.Frag) (H : Hp) (u : Value) (d : PyData) : Prop := ∃ y : V, RelV y u ∧ Dp K H y d
section
variable {X : Cx} {pins : List (Addr × Obj)} {σ : L2.St} {H : Hp} {s : Shared} {A : Around} {E : Value → Shared → Prop} {P : PySem.Fin → Shared → Prop} {f : Addr} {a kS : Addr} {vs : List Value} {kz : List PyData} {e1 : Nat}
/-- what a call of the key must do -/
def KeyTurn (X : Cx) (H : Hp) (s : Shared) (A : Around) (f : Addr) (v : Value) (k : PyData) : Prop := ∀ (H1 : Hp) (s1 : Shared), Since X H s H1 s1 →
  wpAny (model X.prog X.w) A (call (.ref f) [v]) (fun u s2 => ∃ (H2 : Hp) (y : V), Since X H s H2 s2 ∧ Same H1 H2 ∧ (∀ b o, s1.heap.get? b = some o → H1 b = none → b ∉ frs X.stack → s2.heap.get? b = some o ∧ H2 b = none) ∧ RelV y u ∧ Dp X.K H2 y k) (fun _ _ => False) s1
theorem key_rest {s0 : Shared} {H0 : Hp} (I : Inv X pins σ H s) (J0 : Since X H s H0 s0) (nS : s.heap.get? kS = none) (nA : s.heap.get? a = none) (fS : kS ∉ frs X.stack) (fA : a ∉ frs X.stack) (hS0 : H0 kS = none) (hA0 : H0 a = none)
    (oS : s0.heap.get? kS = some (seqObj "list" #[] 0)) (oA : s0.heap.get? a = some (seqObj "list" #[] e1)) (ne : kS ≠ a) (hlen : kz.length = vs.length) (hZ : vs.length ≤ sizeLine) (hal : AllAlike kz) (hsk : Sortable kz) (hbare : ∀ d ∈ kz, bareB d = true)
    (hu : ∀ d, d ∈ kz → A.units + d.depth < cLine) (turn : ∀ (i : Nat) (v : Value) (k : PyData), vs[i]? = some v → kz[i]? = some k → KeyTurn X H s A f v k)
    (fin : ∀ (H3 : Hp) (s3 : Shared) (out : List Value) (c : Nat), Since X H s H3 s3 → H3 a = none → s3.heap.get? a = some (seqObj "list" out.toArray c) → KeyedOut false kz vs out → P (.done (.ret .none)) s3) :
    wpAny (model X.prog X.w) A (ksk_rest a (.ref f) false vs.toArray e1 (.ref kS)) P E s0 := by
  unfold ksk_rest
  refine wpAny_bind (wpAny_rule ?keys); rw [List.forIn_toArray]
  refine wpAny_bind (ksk_fold (fun i s1 => ∃ (H1 : Hp) (kA : Array Value) (ep : Nat), Since X H s H1 s1 ∧ H1 kS = none ∧ H1 a = none ∧ s1.heap.get? kS = some (seqObj "list" kA ep) ∧ s1.heap.get? a = some (seqObj "list" #[] e1) ∧ EachIs (Kd X.K H1) kA.toList (kz.take i)) vs 0 s0
    ⟨H0, #[], 0, J0, hS0, hA0, oS, oA, by rw [List.take_zero]; exact .nil⟩ ?turnS ?endS)
  case turnS =>
    rintro i v s1 hx ⟨H1, kA, ep, J1, hS1, hA1, oS1, oA1, hk⟩
    simp only [Nat.zero_add] at hk ⊢; have hi : i < vs.length := (List.getElem?_eq_some_iff.mp hx).1
    obtain ⟨k, hki⟩ : ∃ k, kz[i]? = some k := ⟨_, List.getElem?_eq_getElem (by omega)⟩
    have hz : kA.size ≤ vs.length := by have n1 := hk.length; rw [Array.length_toList, List.length_take] at n1; omega
    refine wpAny_bind (wpAny_attempt (wpAny_mono (turn i v k hx hki H1 s1 J1) (fun u s2 hs2 => ?_) fun _ _ z => z.elim))
    obtain ⟨H2, y, J2, s12, same, ry, dy⟩ := hs2
    obtain ⟨oS2, hS2⟩ := same _ _ oS1 hS1 fS
    obtain ⟨oA2, hA2⟩ := same _ _ oA1 hA1 fA
    have up := Heap.SameBut.update s2.heap kS (Obj.mapSeq (·.push u))
    obtain ⟨c2, oS3⟩ : ∃ c2, (s2.heap.update kS (Obj.mapSeq (·.push u))).get? kS = some (seqObj "list" (kA.push u) c2) := ⟨_, get?_update_seq oS2 (·.push u)⟩
    refine wpAny_bind (listUpdate_at oS2 rfl ?_ (Nat.le_trans hz hZ) (Nat.le_trans (Nat.le_of_eq (Array.size_push ..)) (Nat.succ_le_succ (Nat.le_trans hz hZ))))
    have keep : ∀ b o, b ≠ kS → s2.heap.get? b = some o → (s2.heap.update kS (Obj.mapSeq (·.push u))).get? b = some o := fun b o hb q => (up.2 b hb).trans q
    refine wpAny_pure ⟨rfl, H2, kA.push u, c2, ⟨J2.os, J2.bare, un_but J2.un nS keep, hok_but J2.hok hS2 keep, J2.same⟩, hS2, hA2, oS3, keep _ _ ne.symm oA2, ?_⟩
    rw [show (kA.push u).toList = kA.toList ++ [u] by simp, show kz.take (i + 1) = kz.take i ++ [k] by rw [List.take_add_one, hki]; simp]
    exact each_snoc ⟨y, ry, dy⟩ (hk.mono fun _ _ ⟨z, rz, dz⟩ => ⟨z, rz, dp_same s12 dz⟩)
  case endS =>
    rintro s1 ⟨H1, kA, ep, J1, hS1, hA1, oS1, oA1, hk⟩
    rw [show kz.take (0 + vs.length) = kz from List.take_of_length_le (by omega)] at hk
    have hsz : kA.size = vs.length := by have n1 := hk.length; rw [Array.length_toList] at n1; omega
    have I1 := J1.inv I
    have hr : EachIs (fun u d => ∃ as, Reads s1.heap u d as) kA.toList kz := by
      refine EachIs.of_zip hk.length fun q hq => ?_
      obtain ⟨y, ry, dy⟩ := hk.zip q hq
      exact ⟨[], dp_bare I1.hok I1.kIn _ _ _ (hbare _ (List.of_mem_zip hq).2) dy ry⟩
    refine wpAny_bind (listItems_at oS1 rfl ?_)
    obtain ⟨G, g1, g2⟩ := restrict s1.heap fun b => decide (b ≠ kS)
    have gk : ∀ b o, b ≠ kS → s1.heap.get? b = some o → G.get? b = some o := fun b o hb q => (g1 b (decide_eq_true hb)).trans q
    have gn : G.get? kS = none := g2 kS (by simp)
    have kp : KeepsBut a G s1.heap := fun b o _ q => by
      by_cases hb : b = kS
      · rw [hb, gn] at q
        cases q
      · exact (g1 b (decide_eq_true hb)).symm.trans q
    refine keyH_end (κ := dataKind s1.heap kz) (h₁ := G) kp gn oS1 oA1 ne (SortsAt.data hr hal hsk hu) hsz hZ fun h3 tk3 c k3 n3 => ?_
    have keep : ∀ b o, b ≠ a → b ≠ kS → s1.heap.get? b = some o → h3.get? b = some o := fun b o ha hb q => k3 b o ha (gk b o hb q)
    exact fin H1 { s1 with heap := h3, toks := tk3 } _ c ⟨J1.os, J1.bare, un_but2 J1.un nA nS keep, hok_but2 J1.hok hA1 hS1 keep, J1.same⟩ hA1 n3 ⟨s1.heap, kA.toList, hal, rfl, hr⟩
/-- xs.sort(key=f), from the list's items on -/
theorem key_tree {s0 : Shared} {H0 : Hp} {n : Nat} (I : Inv X pins σ H s) (J0 : Since X H s H0 s0) (nA : s.heap.get? a = none) (fA : ∀ b, s.heap.objs.size ≤ b → b ∉ frs X.stack) (hA0 : H0 a = none) (sA : s.heap.objs.size ≤ a)
    (oA : s0.heap.get? a = some (seqObj "list" vs.toArray n)) (big : s.heap.objs.size ≤ s0.heap.objs.size) (hlen : kz.length = vs.length) (hZ : vs.length ≤ sizeLine) (hal : AllAlike kz) (hsk : Sortable kz) (hbare : ∀ d ∈ kz, bareB d = true)
    (hu : ∀ d, d ∈ kz → A.units + d.depth < cLine) (turn : ∀ (i : Nat) (v : Value) (k : PyData), vs[i]? = some v → kz[i]? = some k → KeyTurn X H s A f v k)
    (fin : ∀ (H3 : Hp) (s3 : Shared) (out : List Value) (c : Nat), Since X H s H3 s3 → H3 a = none → s3.heap.get? a = some (seqObj "list" out.toArray c) → KeyedOut false kz vs out → P (.done (.ret .none)) s3) :
    wpAny (model X.prog X.w) A (ksk_tree a (.ref f) false) P E s0 := by
  have ltA : a < s0.heap.objs.size := Heap.lt_size oA
  obtain ⟨e1, oA1⟩ : ∃ e1, (s0.heap.update a (Obj.mapSeq fun _ => (#[] : Array Value))).get? a = some (seqObj "list" #[] e1) := ⟨_, get?_update_seq oA fun _ => #[]⟩
  have szS : ((s0.heap.update a (Obj.mapSeq fun _ => (#[] : Array Value))).push (seqObj "tuple" vs.toArray 0)).objs.size = s0.heap.objs.size + 1 := by rw [size_push', Heap.size_update]
  have neS : ((s0.heap.update a (Obj.mapSeq fun _ => (#[] : Array Value))).push (seqObj "tuple" vs.toArray 0)).objs.size ≠ a := fun z => absurd (szS.symm.trans z) (Nat.ne_of_gt (Nat.lt_succ_of_lt ltA))
  have up := Heap.SameBut.update s0.heap a (Obj.mapSeq fun _ => (#[] : Array Value))
  unfold ksk_tree
  refine wpAny_bind (listItems_at oA rfl ?_)
  refine wpAny_bind (listUpdate_at oA rfl ?_ (by rw [List.size_toArray]; exact hZ) (Nat.zero_le _))
  refine wpAny_bind (seqEpoch_at oA1 rfl ?_)
  refine wpAny_bind (wpAny_newTuple (wpAny_bind (wpAny_newList (wpAny_holding ?held) (Nat.zero_le _))) (show vs.length ≤ _ from hZ))
  have keep : ∀ b o, b ≠ a → s0.heap.get? b = some o → (((s0.heap.update a (Obj.mapSeq fun _ => (#[] : Array Value))).push (seqObj "tuple" vs.toArray 0)).push (seqObj "list" #[] 0)).get? b = some o := fun b o hb q =>
    Heap.get?_push_of_some _ (Heap.get?_push_of_some _ ((up.2 b hb).trans q))
  have none0 : ∀ b, s0.heap.objs.size ≤ b → H0 b = none := fun b hb => J0.hok.fresh hb
  refine key_rest (kz := kz) (s0 := { s0 with heap := ((s0.heap.update a (Obj.mapSeq fun _ => (#[] : Array Value))).push (seqObj "tuple" vs.toArray 0)).push (seqObj "list" #[] 0) }) (H0 := H0) (kS := ((s0.heap.update a (Obj.mapSeq fun _ => (#[] : Array Value))).push (seqObj "tuple" vs.toArray 0)).objs.size)
    I ⟨J0.os, J0.bare, un_but J0.un nA keep, hok_but J0.hok hA0 keep, J0.same⟩ (Heap.get?_none_of_le (by rw [szS]; omega)) nA (fA _ (by rw [szS]; omega)) (fA a sA) (none0 _ (by rw [szS]; omega)) hA0
    (Heap.get?_push_size _ rfl) (Heap.get?_push_of_some _ (Heap.get?_push_of_some _ oA1)) neS hlen hZ hal hsk hbare hu turn fin
theorem vals_each : ∀ {zs : List (V × PyData)} {js : List Value}, Vals (zs.map Prod.fst) js → EachIs (fun (u : Value) (z : V × PyData) => RelV z.1 u) js zs
  | [], _, r => by cases r; exact .nil
  | z :: zs, _, r => by
    cases r with
    | cons a b => exact .cons a (vals_each b)
theorem each_vals : ∀ {zs : List (V × PyData)} {js : List Value}, EachIs (fun (u : Value) (z : V × PyData) => RelV z.1 u) js zs → Vals (zs.map Prod.fst) js
  | [], _, r => by cases r; exact .nil
  | z :: zs, _, r => by
    cases r with
    | cons a b => exact .cons a (each_vals b)
/-- sorted(xs, key=f): zs, the items with their keys -/
def rSortK (K : PySem.W.Frag) (f : Addr) (sp : Sp) : List V → List V → Hp → VK → Prop := fun vs ws H Q => ∃ (l : Addr) (zs : List (V × PyData)), vs = [.ref l] ∧ ws = [.ref f] ∧ SqL K H l (zs.map Prod.fst) ∧ zs.length ≤ 1000 ∧ AllAlike (zs.map Prod.snd) ∧ Sortable (zs.map Prod.snd) ∧
  (∀ z ∈ zs, bareB z.2 = true ∧ z.2.depth ≤ 8 ∧ ∀ H1, Same H H1 → sp [z.1] H1 (fun v H2 => Same H1 H2 ∧ Dp K H2 v z.2) E0) ∧
  ∀ H1 q, Same H H1 → H1 q = none → q ≠ sysModules → Q (.ref q) (upd H1 q (.lst ((zs.mergeSort (dataLe false Prod.snd)).map Prod.fst)))
theorem cr_sortK {j : Nat} {fd : FuncData} {p : Str} {sp : Sp} (F : FnOk X.prog X.w X.K X.mg X.base CX0 j f fd [p] sp) (hr : Room (j + 2) X.A) (hb : Binds X.K fd [p] []) : CallRK X (.builtin "sorted") [Str.ofString "key"] (rSortK X.K f sp) := by
  intro pins0 s0 σ0 H0 xs0 ws0 us0 vs0 Q0 I0 r0 r1 ⟨l, zs, e0, e1, hl, hn, hal, hsk, hz, q0⟩
  subst e0 e1
  obtain ⟨u0, rfl, rx0⟩ := vals1 r0
  obtain ⟨w0, rfl, rw0⟩ := vals1 r1
  cases rx0
  cases rw0
  obtain ⟨js, rj, tj, zj⟩ := I0.list hl
  have lj : js.length = zs.length := by rw [← rj.length, List.length_map]
  have line : zs.length ≤ sizeLine := Nat.le_trans hn (by decide)
  have rel : EachIs (fun (u : Value) (z : V × PyData) => RelV z.1 u) js zs := vals_each rj
  refine sorted_of_sort tj.isList (by rw [lj]; exact line) (ksk_s1 _ _) (fun _ => ksk_l1 _ _) fun E' => ?_
  show wpAny _ _ (Builtin.«list.sort» ⟨[.ref (s0.heap.objs.size + 1)], [(Str.ofString "key", .ref f)]⟩) _ _ _
  rw [ksk_t1]
  have bigger : s0.heap.objs.size ≤ (copyHeap s0.heap js).objs.size := Nat.le_of_lt (Nat.lt_of_succ_lt (Heap.lt_size (copyHeap_at s0.heap js)))
  have keep0 : ∀ b o, s0.heap.get? b = some o → (copyHeap s0.heap js).get? b = some o := fun b o q => copyHeap_old q
  have frN : ∀ b, s0.heap.objs.size ≤ b → b ∉ frs X.stack := fun b hb hm => by
    obtain ⟨_, o', e', _⟩ := I0.env0.funs.mem hm
    exact absurd (Heap.lt_size e') (Nat.not_lt.mpr hb)
  refine key_tree (X := X) (pins := pins0) (σ := σ0) (H := H0) (s := s0) (kz := zs.map Prod.snd) (H0 := H0) I0 ⟨rfl, I0.bare, Un.kept keep0, I0.hok.kept keep0, Same.refl H0⟩ (Heap.get?_none_of_le (Nat.le_succ _)) frN (I0.hok.fresh (Nat.le_succ _)) (Nat.le_succ _)
    (copyHeap_at s0.heap js) bigger (by rw [List.length_map, lj]) (by rw [lj]; exact line) hal hsk (fun d hd => ?_) (fun d hd => ?_) (fun i v k hv hk => ?_) fun H3 s3 out c J3 n3 o3 ko => ⟨rfl, ?_⟩
  · obtain ⟨z, hz1, rfl⟩ := List.mem_map.mp hd
    exact (hz z hz1).1
  · obtain ⟨z, hz1, rfl⟩ := List.mem_map.mp hd
    have := (hz z hz1).2.1
    have := hr.un
    show X.A.units + 1 + 1 + z.2.depth < cLine
    omega
  · rw [List.getElem?_map] at hk; obtain ⟨z, hz1, rfl⟩ := Option.map_eq_some_iff.mp hk
    have rz := rel.zip (v, z) (List.mem_of_getElem? (i := i) (by rw [List.getElem?_zip_eq_some]; exact ⟨hv, hz1⟩))
    exact fun H1 s1 J1 => J1.call I0 F hr.in1.in1 rfl hb rz ((hz z (List.mem_of_getElem? hz1)).2.2 H1 J1.same)
  · have ko' := keyedOut_each (R := fun (u : Value) (z : V × PyData) => RelV z.1 u) Prod.snd ko rel
    have ln : ((zs.mergeSort (dataLe false Prod.snd)).map Prod.fst).length ≤ sizeLine := by
      rw [List.length_map, List.length_mergeSort]
      exact line
    have J4 : Since X H0 s0 (upd H3 (s0.heap.objs.size + 1) (.lst ((zs.mergeSort (dataLe false Prod.snd)).map Prod.fst))) s3 :=
      ⟨J3.os, J3.bare, un_put J3.un (Heap.get?_none_of_le (Nat.le_succ _)) n3, hok_put J3.hok n3 ⟨ln, out, c, each_vals ko', o3⟩, J3.same.trans (Same.new n3)⟩
    exact ⟨.ref (s0.heap.objs.size + 1), _, J4.inv I0, rfl, q0 H3 _ J3.same n3 (Nat.ne_of_gt (Nat.lt_succ_of_lt I0.big))⟩
end
end Ld
namespace K28
open PySem L2 Ld PyProof.Rows
/-! ### rules -/
inductive An
  | gone
  | own (z : Str)
  | to (ws : List Str) (n : Int)
deriving DecidableEq
structure Rl where
  ex : Bool
  pl : List Str
  an : An
deriving DecidableEq
def sortS (b : Bool) : Str := if b then "exact" else "open"
def ownS (b : Bool) : Str := if b then "page" else "section"
def An.d (b : Bool) : An → PyData
  | .gone => .tuple [.str "gone"]
  | .own z => .tuple [.str (ownS b), .str z]
  | .to ws n => .tuple [.str "to", wt ws, .int n]
def Rl.d (r : Rl) : PyData := .tuple [.str (sortS r.ex), wt r.pl, r.an.d r.ex]
def kOf (b : Bool) (ws : List Str) : NestedKey := .tup [.text (sortS b), .tup (ws.map .text)]
def Rl.key (r : Rl) : NestedKey := kOf r.ex r.pl
/-- what it is sorted by -/
def Rl.kd (r : Rl) : PyData := .tuple [keyD r.pl, .str (sortS r.ex)]
def wds : List Str := ["p", "r", "a", "b", "aa", "c", "q", "home", "s", "zz"]
def Wd (z : Str) : Prop := z ∈ wds
theorem Wd.word {z : Str} (h : Wd z) : wordS z = true := List.all_eq_true.mp (show wds.all wordS = true by decide +kernel) z h
theorem Wd.asc {z : Str} (h : Wd z) : ascB z = true := List.all_eq_true.mp (show wds.all ascB = true by decide +kernel) z h
theorem Wd.low {z : Str} (h : Wd z) : ∀ c ∈ z.cps.toList, c < 128 := (asc_of h.asc).2
def An.Ok : An → Prop
  | .gone => True
  | .own z => Wd z
  | .to ws n => ws.length ≤ 4 ∧ (∀ z ∈ ws, Wd z) ∧ 0 ≤ n ∧ n ≤ 10000
structure Rl.Ok (r : Rl) : Prop where
  len : r.pl.length ≤ 4
  wds : ∀ z ∈ r.pl, Wd z
  an : r.an.Ok
theorem words_all {ws : List Str} (h : ∀ z ∈ ws, Wd z) : (ws.map PyData.str).all wordD = true := by
  rw [List.all_eq_true]
  intro d hd
  obtain ⟨z, hz, rfl⟩ := List.mem_map.mp hd
  exact (h z hz).word
theorem place_wt {ws : List Str} (hl : ws.length ≤ 4) (h : ∀ z ∈ ws, Wd z) : placeD (wt ws) = true := by
  show (decide ((ws.map PyData.str).length ≤ 4) && (ws.map PyData.str).all wordD) = true
  rw [words_all h, List.length_map, decide_eq_true hl]
  rfl
theorem fit_words : ∀ {ws : List Str}, (∀ z ∈ ws, Wd z) → fitAll (ws.map PyData.str) = true
  | [], _ => rfl
  | z :: ws, h => by
    show (ascB z && fitAll (ws.map PyData.str)) = true
    rw [(h z List.mem_cons_self).asc, fit_words fun y hy => h y (List.mem_cons_of_mem _ hy)]
    rfl
theorem fit_wt {ws : List Str} (hl : ws.length ≤ 4) (h : ∀ z ∈ ws, Wd z) : fitB (wt ws) = true := by
  show (decide ((ws.map PyData.str).length ≤ 1000) && fitAll (ws.map PyData.str)) = true
  rw [fit_words h, List.length_map, decide_eq_true (by omega)]
  rfl
theorem asc_sort (b : Bool) : ascB (sortS b) = true := by cases b <;> decide +kernel
theorem asc_own (b : Bool) : ascB (ownS b) = true := by cases b <;> decide +kernel
theorem asc_gone : ascB "gone" = true := by decide +kernel
theorem asc_to : ascB "to" = true := by decide +kernel
theorem fit3 (x y z : PyData) : fitB (.tuple [x, y, z]) = (fitB x && (fitB y && fitB z)) := by
  show (decide (3 ≤ 1000) && (fitB x && (fitB y && (fitB z && true)))) = _
  rw [Bool.and_true]
  rfl
theorem fit_an {a : An} (b : Bool) (h : a.Ok) : fitB (a.d b) = true := by
  cases a with
  | gone =>
    show (decide (1 ≤ 1000) && (ascB "gone" && true)) = true
    rw [asc_gone]
    rfl
  | own z =>
    show (decide (2 ≤ 1000) && (ascB (ownS b) && (ascB z && true))) = true
    rw [asc_own, Wd.asc h]
    rfl
  | to ws n =>
    obtain ⟨h1, h2, _⟩ := h
    rw [show An.d b (.to ws n) = .tuple [.str "to", wt ws, .int n] from rfl, fit3, fit_wt h1 h2]
    show (ascB "to" && (true && true)) = true
    rw [asc_to]
    rfl
theorem Rl.Ok.fit {r : Rl} (h : r.Ok) : fitB r.d = true := by
  unfold Rl.d
  rw [fit3, fit_wt h.len h.wds, fit_an r.ex h.an]
  show (ascB (sortS r.ex) && (true && true)) = true
  rw [asc_sort]
  rfl
theorem ans_ok {a : An} (b : Bool) (h : a.Ok) : answerD (ownS b) (a.d b) = true := by
  have n1 : ∀ b, txtD (.str (ownS b)) "gone" = false := fun b => by cases b <;> decide +kernel
  have n2 : ∀ b, txtD (.str (ownS b)) "to" = false := fun b => by cases b <;> decide +kernel
  have n3 : ∀ b, txtD (.str (ownS b)) (ownS b) = true := fun b => by cases b <;> decide +kernel
  cases a with
  | gone => exact (answerD_cons _ _ _).trans (if_pos (by decide +kernel))
  | own z =>
    refine (answerD_cons _ _ _).trans ?_
    rw [if_neg (by rw [n1]; decide), if_neg (by rw [n2]; decide), n3]
    exact Wd.word h
  | to ws n =>
    obtain ⟨h1, h2, h3, h4⟩ := h
    refine (answerD_cons _ _ _).trans ?_
    rw [if_neg (by decide +kernel), if_pos (by decide +kernel)]
    show (placeD (wt ws) && (decide (0 ≤ n) && decide (n ≤ 10000))) = true
    rw [place_wt h1 h2, decide_eq_true h3, decide_eq_true h4]
    rfl
theorem Rl.Ok.rule {r : Rl} (h : r.Ok) : ruleD r.d = true := by
  have pl := place_wt h.len h.wds
  have an := ans_ok r.ex h.an
  show ruleT (.str (sortS r.ex)) (wt r.pl) (r.an.d r.ex) = true
  cases e : r.ex with
  | true =>
    rw [e] at an
    show ruleT (.str "exact") (wt r.pl) (r.an.d true) = true
    rw [ruleT_exact, pl]
    exact an
  | false =>
    rw [e] at an
    show ruleT (.str "open") (wt r.pl) (r.an.d false) = true
    rw [ruleT_open, pl]
    exact an
/-! ### the order -/
theorem toks_inj : ∀ {ws us : List Str} {a b : List (Int ⊕ List Nat)}, PySem.W.keyToksAll (ws.map PyData.str) ++ a = PySem.W.keyToksAll (us.map PyData.str) ++ b → ws = us ∧ a = b
  | [], [], a, b, h => ⟨rfl, by simpa [PySem.W.keyToksAll] using h⟩
  | [], u :: us, a, b, h => by simp [PySem.W.keyToksAll] at h
  | w :: ws, [], a, b, h => by simp [PySem.W.keyToksAll] at h
  | w :: ws, u :: us, a, b, h => by
    simp only [List.map_cons, PySem.W.keyToksAll, PySem.W.keyToks, List.cons_append, List.nil_append, List.cons.injEq, true_and, Sum.inr.injEq] at h
    obtain ⟨h1, h2⟩ := h
    obtain ⟨rfl, e⟩ := toks_inj h2
    exact ⟨by rw [PySem.W.str_of_cps h1], e⟩
theorem sortS_inj {a b : Bool} (h : sortS a = sortS b) : a = b := by
  cases a <;> cases b <;> first | rfl | exact absurd h (by decide +kernel)
theorem kd_inj {r t : Rl} (h : PySem.W.keyToks r.kd = PySem.W.keyToks t.kd) : r.ex = t.ex ∧ r.pl = t.pl := by
  unfold Rl.kd keyD wt at h
  simp only [PySem.W.keyToksAll, PySem.W.keyToks, List.cons_append, List.nil_append, List.append_assoc, List.cons.injEq, true_and] at h
  obtain ⟨_, h⟩ := h
  obtain ⟨e1, e2⟩ := toks_inj h
  simp only [List.cons.injEq, true_and, Sum.inr.injEq, and_true] at e2
  exact ⟨sortS_inj (PySem.W.str_of_cps e2), e1⟩
def leR (a b : Rl) : Bool := PySem.W.dataLe false Rl.kd a b
theorem leR_tot : PySem.W.TotalLe leR := PySem.W.sortLe_total (listOrd itemOrd) false fun r => PySem.W.keyToks (Rl.kd r)
theorem leR_anti {a b : Rl} (h1 : leR a b = true) (h2 : leR b a = true) : a.ex = b.ex ∧ a.pl = b.pl := by
  refine kd_inj ?_
  have e1 : (!(listOrd itemOrd).blt (PySem.W.keyToks b.kd) (PySem.W.keyToks a.kd)) = true := h1
  have e2 : (!(listOrd itemOrd).blt (PySem.W.keyToks a.kd) (PySem.W.keyToks b.kd)) = true := h2
  rw [Bool.not_eq_true'] at e1 e2
  exact (listOrd itemOrd).total _ _ e2 e1
def sortR (rs : List Rl) : List Rl := rs.mergeSort leR
theorem sortR_perm (rs : List Rl) : (sortR rs).Perm rs := List.mergeSort_perm _ _
theorem leR_or (a b : Rl) : (leR a b || leR b a) = true := by
  rcases leR_tot.total a b with h | h <;> rw [h] <;> simp
theorem key_inj {a b : Rl} (h : a.key = b.key) : a.ex = b.ex ∧ a.pl = b.pl := by
  unfold Rl.key kOf at h
  simp only [NestedKey.tup.injEq, List.cons.injEq, NestedKey.text.injEq, and_true] at h
  obtain ⟨h1, h2⟩ := h
  refine ⟨sortS_inj h1, ?_⟩
  have : ∀ {ws us : List Str}, ws.map NestedKey.text = us.map NestedKey.text → ws = us := by
    intro ws us e
    induction ws generalizing us with
    | nil => cases us with
      | nil => rfl
      | cons _ _ => simp at e
    | cons w ws ih => cases us with
      | nil => simp at e
      | cons u us =>
        simp only [List.map_cons, List.cons.injEq, NestedKey.text.injEq] at e
        rw [e.1, ih e.2]
  exact this h2
theorem nodup_key {rs : List Rl} (h : (rs.map Rl.key).Nodup) {a b : Rl} (ha : a ∈ rs) (hb : b ∈ rs) (e : a.ex = b.ex ∧ a.pl = b.pl) : a = b := by
  have k : a.key = b.key := by unfold Rl.key; rw [e.1, e.2]
  induction rs with
  | nil => cases ha
  | cons x rs ih =>
    rw [List.map_cons, List.nodup_cons] at h
    rcases List.mem_cons.mp ha with ea | ha2
    · rcases List.mem_cons.mp hb with eb | hb2
      · rw [ea, eb]
      · exact absurd (by rw [← ea, k]; exact List.mem_map_of_mem hb2) h.1
    · rcases List.mem_cons.mp hb with eb | hb2
      · exact absurd (by rw [← eb, ← k]; exact List.mem_map_of_mem ha2) h.1
      · exact ih h.2 ha2 hb2
/-- what is sorted hangs on the rules alone -/
theorem sortR_eq {rs ts : List Rl} (h : (rs.map Rl.key).Nodup) (p : rs.Perm ts) : sortR rs = sortR ts := by
  refine List.Perm.eq_of_pairwise (le := fun a b => leR a b = true) (fun a b ha hb h1 h2 => ?_) (List.pairwise_mergeSort leR_tot.trans leR_or rs) (List.pairwise_mergeSort leR_tot.trans leR_or ts) ((sortR_perm rs).trans (p.trans (sortR_perm ts).symm))
  exact nodup_key h ((sortR_perm rs).mem_iff.mp ha) (p.mem_iff.mpr ((sortR_perm ts).mem_iff.mp hb)) (leR_anti h1 h2)
theorem sortR_nodup {rs : List Rl} (h : (rs.map Rl.key).Nodup) : ((sortR rs).map Rl.key).Nodup := ((sortR_perm rs).map Rl.key).nodup_iff.mpr h
theorem kd_alike (a b : Rl) : PySem.W.alike a.kd b.kd = true := by
  simp [Rl.kd, PySem.W.alike, PySem.W.alikeAll, alike_key]
theorem kd_bare (a : Rl) : bareB a.kd = true := by
  have h : ∀ ws : List Str, bareAll (ws.map PyData.str) = true := fun ws => by
    induction ws with
    | nil => rfl
    | cons w ws ih => exact ih
  simp [Rl.kd, keyD, wt, bareB, bareAll, h]
theorem kd_deep (a : Rl) : a.kd.depth ≤ 8 := by
  have h := depth_words a.pl
  simp only [Rl.kd, keyD, wt, PyData.depth, PyData.depthAll, h]
  omega
/-! ### rules that stand -/
section
variable {K : PySem.W.Frag} {H H' : Hp}
def AnAt (K : PySem.W.Frag) (H : Hp) (v : V) (b : Bool) : An → Prop
  | .gone => ∃ a, v = .ref a ∧ SqT K H a [.str "gone"]
  | .own z => ∃ a, v = .ref a ∧ SqT K H a [.str (ownS b), .str z]
  | .to ws n => ∃ a c, v = .ref a ∧ SqT K H a [.str "to", .ref c, .int n] ∧ SqT K H c (ws.map V.str)
def RuleAt (K : PySem.W.Frag) (H : Hp) (v : V) (r : Rl) : Prop := ∃ a p x, v = .ref a ∧ SqT K H a [.str (sortS r.ex), .ref p, x] ∧ SqT K H p (r.pl.map V.str) ∧ AnAt K H x r.ex r.an
theorem AnAt.mono {v : V} {b : Bool} {a : An} (z : AnAt K H v b a) (hT : ∀ a xs, SqT K H a xs → SqT K H' a xs) : AnAt K H' v b a := by
  cases a with
  | gone => exact let ⟨c, e, h⟩ := z; ⟨c, e, hT _ _ h⟩
  | own y => exact let ⟨c, e, h⟩ := z; ⟨c, e, hT _ _ h⟩
  | to ws n => exact let ⟨c, d, e, h, h2⟩ := z; ⟨c, d, e, hT _ _ h, hT _ _ h2⟩
theorem RuleAt.mono {v : V} {r : Rl} (z : RuleAt K H v r) (hT : ∀ a xs, SqT K H a xs → SqT K H' a xs) : RuleAt K H' v r :=
  let ⟨a, p, x, e, h1, h2, h3⟩ := z; ⟨a, p, x, e, hT _ _ h1, hT _ _ h2, h3.mono hT⟩
theorem RuleAt.same {v : V} {r : Rl} (z : RuleAt K H v r) (s : Same H H') : RuleAt K H' v r := z.mono fun _ _ q => same_T s q
theorem dp_ws {a : Addr} {ws : List Str} (h : SqT K H a (ws.map V.str)) : Dp K H (.ref a) (wt ws) := .tup h (dp_strs ws)
theorem AnAt.dp {v : V} {b : Bool} {a : An} (z : AnAt K H v b a) : Dp K H v (a.d b) := by
  cases a with
  | gone =>
    obtain ⟨c, rfl, h⟩ := z
    exact .tup h (.cons (.str _) .nil)
  | own y =>
    obtain ⟨c, rfl, h⟩ := z
    exact .tup h (.cons (.str _) (.cons (.str _) .nil))
  | to ws n =>
    obtain ⟨c, d, rfl, h, h2⟩ := z
    exact .tup h (.cons (.str _) (.cons (dp_ws h2) (.cons (.int _) .nil)))
theorem RuleAt.dp {v : V} {r : Rl} (z : RuleAt K H v r) : Dp K H v r.d := by
  obtain ⟨a, p, x, rfl, h1, h2, h3⟩ := z
  exact .tup h1 (.cons (.str _) (.cons (dp_ws h2) (.cons h3.dp .nil)))
theorem dd_strs : ∀ ws : List Str, DdAll K H (ws.map V.str) (ws.map PyData.str)
  | [] => .nil
  | w :: ws => .cons (.str w) (dd_strs ws)
theorem AnAt.dd {v : V} {b : Bool} {a : An} (z : AnAt K H v b a) : Dd K H v (a.d b) := by
  cases a with
  | gone =>
    obtain ⟨c, rfl, h⟩ := z
    exact .tup h (.cons (.str _) .nil)
  | own y =>
    obtain ⟨c, rfl, h⟩ := z
    exact .tup h (.cons (.str _) (.cons (.str _) .nil))
  | to ws n =>
    obtain ⟨c, d, rfl, h, h2⟩ := z
    exact .tup h (.cons (.str _) (.cons (.tup h2 (dd_strs ws)) (.cons (.int _) .nil)))
theorem RuleAt.dd {v : V} {r : Rl} (z : RuleAt K H v r) : Dd K H v r.d := by
  obtain ⟨a, p, x, rfl, h1, h2, h3⟩ := z
  exact .tup h1 (.cons (.str _) (.cons (.tup h2 (dd_strs _)) (.cons h3.dd .nil)))
abbrev Rules (K : PySem.W.Frag) (H : Hp) (xs : List V) (rs : List Rl) : Prop := Paired (RuleAt K H) xs rs
theorem Rules.mono {xs : List V} {rs : List Rl} (z : Rules K H xs rs) (hT : ∀ a xs, SqT K H a xs → SqT K H' a xs) : Rules K H' xs rs := Paired.mono (fun _ _ q => q.mono hT) z
theorem Rules.same {xs : List V} {rs : List Rl} (z : Rules K H xs rs) (s : Same H H') : Rules K H' xs rs := z.mono fun _ _ q => same_T s q
theorem Rules.dp : ∀ {xs : List V} {rs : List Rl}, Rules K H xs rs → DpAll K H xs (rs.map Rl.d)
  | _, _, .nil => .nil
  | _, _, .cons a b => .cons a.dp (Rules.dp b)
theorem Rules.get {xs : List V} {rs : List Rl} (z : Rules K H xs rs) {i : Nat} {v : V} (h : xs[i]? = some v) : ∃ r, rs[i]? = some r ∧ RuleAt K H v r := by
  induction z generalizing i with
  | nil => simp at h
  | cons a b ih =>
    cases i with
    | zero =>
      simp at h
      subst h
      exact ⟨_, rfl, a⟩
    | succ i => exact ih (by simpa using h)
theorem nis_key {p q : Addr} {b : Bool} {ws : List Str} (h : SqT K H p [.str (sortS b), .ref q]) (h2 : SqT K H q (ws.map V.str)) : NIs K H (kOf b ws) (.ref p) := .tup h (.cons (.text _) (.cons (.tup h2 (nall_strs ws)) .nil))
theorem key_deep (b : Bool) (ws : List Str) : (kOf b ws).depth ≤ 8 := by
  have h : ∀ ws : List Str, NestedKey.depthAll (ws.map NestedKey.text) = 0 := fun ws => by
    induction ws with
    | nil => rfl
    | cons w ws ih => simp [NestedKey.depthAll, NestedKey.depth, ih]
  simp only [kOf, NestedKey.depth, NestedKey.depthAll, h]
  omega
end
end K28
/-! max of a list of whole numbers, with default=: the greatest, or the default where there is none -/
namespace Ld
open PySem L2 PySem.W
theorem maxOf_int : ∀ (ys : List Int) (y : Int), maxOf y ys ∈ y :: ys ∧ ∀ x ∈ y :: ys, x ≤ maxOf y ys
  | [], y => ⟨List.mem_cons_self, fun x h => by
      rw [List.mem_singleton.mp h]
      exact Int.le_refl _⟩
  | z :: ys, y => by
    have e : maxOf y (z :: ys) = maxOf (if y < z then z else y) ys := by
      show (z :: ys).foldl _ y = ys.foldl _ _
      rw [List.foldl_cons]
      congr 1
      show (if decide (y < z) = true then z else y) = _
      simp
    obtain ⟨h1, h2⟩ := maxOf_int ys (if y < z then z else y)
    rw [e]
    refine ⟨?_, fun x h => ?_⟩
    · rcases List.mem_cons.mp h1 with h | h
      · rw [h]
        split <;> simp
      · exact List.mem_cons_of_mem _ (List.mem_cons_of_mem _ h)
    · have h3 := h2 _ List.mem_cons_self
      generalize maxOf (if y < z then z else y) ys = M at h2 h3 ⊢
      have h4 : y ≤ M ∧ z ≤ M := by
        by_cases c : y < z
        · rw [if_pos c] at h3
          omega
        · rw [if_neg c] at h3
          omega
      rcases List.mem_cons.mp h with h | h
      · rw [h]
        exact h4.1
      · rcases List.mem_cons.mp h with h | h
        · rw [h]
          exact h4.2
        · exact h2 _ (List.mem_cons_of_mem _ h)
section
variable {X : Cx}
def rLenK (K : PySem.W.Frag) : List V → Hp → VK → Prop := fun xs H Q => ∃ p ys, xs = [.ref p] ∧ (SqL K H p ys ∨ SqT K H p ys) ∧ Q (.int (ys.length : Int)) H
theorem call_lenK {K : PySem.W.Frag} (h : X.K = K := by rfl) : CallR X (.builtin "len") (rLenK K) := by
  subst h
  exact call_len_seq
theorem ix_tupK {K : PySem.W.Frag} (h : X.K = K := by rfl) : IxR X (rIxT K) := by
  subst h
  exact ix_tup
def rMaxDf (K : PySem.W.Frag) : List V → List V → Hp → VK → Prop := fun vs ws H Q => ∃ (l : Addr) (ns : List Int) (d : Int), vs = [.ref l] ∧ ws = [.int d] ∧ SqL K H l (ns.map V.int) ∧ ∀ m, (ns = [] → m = d) → (ns ≠ [] → m ∈ ns) → (∀ y ∈ ns, y ≤ m) → Q (.int m) H
theorem cr_maxDf (hc : X.calm = true) (hu : X.A.units + 8 < cLine) : CallRK X (.builtin "max") [Str.ofString "default"] (rMaxDf X.K) := by
  intro pins0 s0 σ0 H0 xs0 ws0 us0 vs0 Q0 I0 r0 r1 ⟨l, ns, d, e0, e1, hl, q0⟩
  subst e0 e1
  obtain ⟨u0, rfl, rx0⟩ := vals1 r0
  obtain ⟨w0, rfl, rw0⟩ := vals1 r1
  cases rx0
  obtain ⟨its, rv, tl, _⟩ := I0.list hl
  refine max_list_datum_default (α := Int) (I0.ok.hd hc) tl.isList (xs := ns) ?_ ?_ (fun e h' tk hk => ⟨_, H0, I0.kept hk, rw0, q0 d (fun _ => rfl) (fun h => absurd e h) (fun y hy => by rw [e] at hy; cases hy)⟩) (fun y ys i v h' tk e hi hh hk => ?_)
  · have := HoldAll.of_ints (h := s0.heap) rv.ints
    simpa using this
  · show X.A.units + 1 + 0 < cLine
    omega
  · obtain ⟨as, r⟩ := hh
    have hm := maxOf_int ys y
    generalize hM : maxOf y ys = M at r hm
    change Reads h' v (.int M) as at r
    cases r
    refine ⟨.int M, H0, I0.kept hk, ⟨_, rfl⟩, q0 M (fun h => ?_) (fun _ => by rw [e]; exact hm.1) (fun z hz => by rw [e] at hz; exact hm.2 z hz)⟩
    rw [e] at h
    cases h
end
end Ld
namespace K28
open PySem L2 Ld PyProof.Rows
def meth (i : Nat) : Stmt := match top 23 with
  | .ClassDef _ _ _ body _ _ _ _ _ _ _ => body.getD i (.Pass ⟨0, 0, 0, 0⟩)
  | s => s
abbrev sRK : Stmt := top 22
abbrev sInit : Stmt := meth 0
structure Ty (mg : Str → Option Value) : Prop where
  sorted : mg "sorted" = none
  rev : mg "reversed" = none
  mr : ∃ t, mg "MOST_RULES" = some (.int 40 t)
theorem cutV_two (x y z : V) : cutV [x, y, z] none (some 2) = [x, y] := by
  unfold cutV
  rw [HT.sIx_none, show (2 : Int) = ((2 : Nat) : Int) from rfl, HT.sIx_nat]
  rfl
theorem kGet_snoc (k j : NestedKey) (b : Addr) (v : V) : ∀ rows : List Rw, kGet (rows ++ [(k, b, v)]) j = match kGet rows j with
    | some u => some u
    | none => if k = j then some v else none
  | [] => by
    rw [List.nil_append, kGet_cons]
    rfl
  | x :: rows => by
    rw [List.cons_append, kGet_cons, kGet_cons]
    by_cases h : x.1 = j
    · rw [if_pos h, if_pos h]
    · rw [if_neg h, if_neg h]
      exact kGet_snoc k j b v rows
theorem dc_list {P : Program} {w : World} {K : PySem.W.Frag} {a : Addr} {xs : List V} {g : TG} {tk tv : TE} {vs : List Nat} {σ : L2.St} {H1 : Hp} {D : Addr} {Qd : Hp → Prop} (Pv : Nat → Hp → Prop) (h0 : Pv 0 (upd H1 D (kdO P w D []))) (hl : ∀ i G, i ≤ xs.length → Pv i G → SqL K G a xs)
    (hs : ∀ i x G, xs[i]? = some x → Pv i G → g x (wipe σ vs) G fun σ2 G2 => wipe σ2 vs = wipe σ vs ∧ tk σ2 G2 fun y G4 => tv σ2 G4 fun z G5 => moreN P w K D y z G5 (Pv (i + 1))) (hd : ∀ G, Pv xs.length G → Qd G) :
    ∃ W : Nat → Nat → Hp → Prop, (∃ m, W 0 m (upd H1 D (kdO P w D []))) ∧ ∀ i m G, W i m G → ((Itl K a).stop i G ∧ Qd G) ∨ ((Itl K a).go i G ∧ ∃ Nx : Hp → Prop, (∀ G', Nx G' → ∃ m', m' < m ∧ W (i + 1) m' G') ∧
      ∀ x G', (Itl K a).yld i G x G' → g x (wipe σ vs) G' fun σ2 G2 => wipe σ2 vs = wipe σ vs ∧ tk σ2 G2 fun y G4 => tv σ2 G4 fun z G5 => moreN P w K D y z G5 Nx) := by
  refine ⟨fun i m G => m + i = xs.length ∧ Pv i G, ⟨xs.length, rfl, h0⟩, fun i m G ⟨e, p⟩ => ?_⟩
  have q := hl i G (by omega) p
  by_cases hlt : i < xs.length
  · refine Or.inr ⟨⟨xs, xs[i], q, List.getElem?_eq_getElem hlt⟩, Pv (i + 1), fun G' p' => ⟨m - 1, by omega, by omega, p'⟩, fun x G' y => ?_⟩
    obtain ⟨rfl, y⟩ := y
    exact hs i x G' (y xs q) p
  · have e2 : i = xs.length := by omega
    subst e2
    exact Or.inl ⟨⟨xs, q, Nat.le_refl _⟩, hd G p⟩
theorem sqT_kd {P : Program} {w : World} {K : PySem.W.Frag} {G : Hp} {D p : Addr} {r1 r2 : List Rw} {xs : List V} (hD : G D = some (kdO P w D r1)) (h : SqT K G p xs) : SqT K (upd G D (kdO P w D r2)) p xs := by
  rcases h with (h | ⟨o, h⟩) | h
  · exact .inl (.inl ((upd_ne (ne_of h hD fun e => nomatch e)).trans h))
  · exact .inl (.inr ⟨o, (upd_ne (ne_of h hD fun e => nomatch e)).trans h⟩)
  · exact .inr h
theorem rules_zip {K : PySem.W.Frag} {H : Hp} : ∀ {xs : List V} {rs : List Rl}, Rules K H xs rs → ∀ q ∈ xs.zip rs, RuleAt K H q.1 q.2
  | _, _, .nil, q, h => nomatch h
  | _, _, .cons a b, q, h => by
    rcases List.mem_cons.mp h with rfl | h
    · exact a
    · exact rules_zip b q h
theorem rules_of {K : PySem.W.Frag} {H : Hp} : ∀ {l : List (V × Rl)}, (∀ q ∈ l, RuleAt K H q.1 q.2) → Rules K H (l.map (·.1)) (l.map (·.2))
  | [], _ => .nil
  | q :: l, h => .cons (h q List.mem_cons_self) (rules_of fun p hp => h p (List.mem_cons_of_mem _ hp))
def zOf (q : V × Rl) : V × PyData := (q.1, q.2.kd)
theorem zip_fst {α β : Type} : ∀ {xs : List α} {rs : List β}, xs.length = rs.length → (xs.zip rs).map (·.1) = xs ∧ (xs.zip rs).map (·.2) = rs
  | [], [], _ => ⟨rfl, rfl⟩
  | [], _ :: _, h => by simp at h
  | _ :: _, [], h => by simp at h
  | x :: xs, r :: rs, h => by
    obtain ⟨h1, h2⟩ := zip_fst (xs := xs) (rs := rs) (by simpa using h)
    exact ⟨congrArg (x :: ·) h1, congrArg (r :: ·) h2⟩
theorem sorted_rules {K : PySem.W.Frag} {H : Hp} {xs : List V} {rs : List Rl} (z : Rules K H xs rs) : Rules K H ((((xs.zip rs).map zOf).mergeSort (PySem.W.dataLe false Prod.snd)).map Prod.fst) (sortR rs) := by
  have e1 := List.map_mergeSort (r := fun a b : V × Rl => leR a.2 b.2) (s := PySem.W.dataLe false Prod.snd) (f := zOf) (l := xs.zip rs) (fun a _ b _ => rfl)
  have e2 := List.map_mergeSort (r := fun a b : V × Rl => leR a.2 b.2) (s := leR) (f := fun q => q.2) (l := xs.zip rs) (fun a _ b _ => rfl)
  rw [(zip_fst z.length).2] at e2
  unfold sortR
  rw [← e1, ← e2, List.map_map]
  exact rules_of fun q hq => rules_zip z q ((List.mergeSort_perm _ _).mem_iff.mp hq)
theorem sqT_ins {K : PySem.W.Frag} {G : Hp} {a C p dx : Addr} {f1 f2 : List (Str × V)} {xs : List V} (h0 : G a = some (.ins C dx f1)) (h : SqT K G p xs) : SqT K (upd G a (.ins C dx f2)) p xs := by
  rcases h with (h | ⟨o, h⟩) | h
  · exact .inl (.inl ((upd_ne (ne_of h h0 fun e => nomatch e)).trans h))
  · exact .inl (.inr ⟨o, (upd_ne (ne_of h h0 fun e => nomatch e)).trans h⟩)
  · exact .inr h
theorem boot_sorted : bootBuiltins "sorted" = some (.builtin "sorted") := by decide +kernel
section
variable {X : Cx}
theorem _root_.L2.FunD.ok0 {P : Program} {w : World} {K : PySem.W.Frag} {mg : Str → Option Value} {base : Heap} {x qual : Str} {params : Arguments} {body : List Stmt} {scope : Scope} {dvs : List V} {kws : List (Str × V)} {f : Addr} {fd : FuncData} {N ps : List Str} {k : Nat} {sp : Sp}
    (F : FunD K x qual params body scope dvs kws f fd) (S : FnScope N ps scope) (len : ∀ vs H Q E, sp vs H Q E → vs.length = ps.length)
    (hb : ∀ (cdv : Value) (A : Around) (outer : List Env) (s : Shared) (H : Hp) (vs : List V) (Q : VK) (E : XK), Room k (A.deeper (envOfC qual scope s.heap.objs.size f cdv)) → sp vs H Q E →
      ∃ t, PSs (cxOf CX0 P w K mg base N qual scope f cdv A outer s H E).nox body t ∧ t { nx := fun _ H' => Q .non H', rt := Q } (start N vs) H) : FnOk P w K mg base CX0 (k + 1) f fd ps sp :=
  F.ok S len fun cdv A outer s H vs Q E hr hsp => let ⟨t, h, q⟩ := hb cdv A outer s H vs Q E hr hsp; ⟨t, h.nox, q⟩
theorem pss_dead {sts : List Stmt} : PSs X sts (fun _ _ _ => False) := ⟨fun _ _ _ _ _ _ h => h.elim⟩
end
section
variable {P : Program} {w : World} {K : PySem.W.Frag} {mg : Str → Option Value} {base : Heap} {f : Addr} {fd : FuncData}
def spRK (K : PySem.W.Frag) : Sp := fun vs H Q _ => ∃ (v : V) (r : Rl), vs = [v] ∧ RuleAt K H v r ∧ ∀ y H', Same H H' → Dp K H' y r.kd → Q y H'
theorem scRK : FnScope ["rule"] ["rule"] (defScope sRK) := ⟨rfl, rfl, rfl, by decide +kernel, rfl, by decide +kernel, by decide +kernel⟩
theorem ok_ruleKey (Fd : Fun K "rule_key" "rule_key" sRK f fd) (T : Tx mg) (DK : Df P w K mg base 1 "address_key" ["address"] (spKey K)) : FnOk P w K mg base CX0 2 f fd ["rule"] (spRK K) := by
  refine Fd.ok scRK (fun vs H Q E h => ?_) (fun cdv A outer s H vs Q E hr h => ?_)
  · obtain ⟨v, r, rfl, _⟩ := h
    rfl
  · obtain ⟨v, r, rfl, ⟨a, p, x, rfl, h1, h2, h3⟩, q⟩ := h
    refine ⟨_, pss_one (ps_ret (pe_tup (pa_cons (pe_df DK hr (pa_cons (pe_ix ix_tup (pv 0) pe_int (fun _ _ => rfl)) pa_nil)) (pa_cons (pe_ix ix_tup (pv 0) pe_int (fun _ _ => rfl)) pa_nil)))), ?_⟩
    refine ⟨_, rfl, a, _, _, _, rfl, rfl, h1, at1, p, r.pl, rfl, h2, fun y H1 s1 d1 => ⟨_, rfl, a, _, _, _, rfl, rfl, same_T s1 h1, at0, (show 2 ≤ sizeLine by decide), fun t ht => ?_⟩⟩
    have s2 := Same.new (o := .tup [.ref y, .str (sortS r.ex)]) ht
    exact q _ _ (s1.trans s2) (.tup (.of upd_same) (.cons (dp_same s2 d1) (.cons (.str _) .nil)))
/-! ### a table that stands -/
def rowsFit (K : PySem.W.Frag) (H : Hp) (rows : List Rw) (rs : List Rl) : Prop := (∀ k v, kGet rows k = some v → ∃ r ∈ rs, r.key = k ∧ RuleAt K H v r) ∧ ∀ r ∈ rs, (kGet rows r.key).isSome = true
structure Good (rs : List Rl) : Prop where
  ok : ∀ r ∈ rs, r.Ok
  few : rs.length ≤ 40
  one : (rs.map Rl.key).Nodup
def Longest (rs : List Rl) (m : Int) : Prop := 0 ≤ m ∧ m ≤ 4 ∧ ∀ r ∈ rs, (r.pl.length : Int) ≤ m
def TabAt (P : Program) (w : World) (K : PySem.W.Frag) (CT : Addr) (H : Hp) (a : Addr) (rs : List Rl) : Prop := ∃ (dx t d : Addr) (xs : List V) (rows : List Rw) (m : Int), H a = some (.ins CT dx [("_rules", .ref t), ("_found", .ref d), ("_longest", .int m)]) ∧ SqT K H t xs ∧ Rules K H xs rs ∧ Good rs ∧ KD P w K H d rows ∧ rowsFit K H rows rs ∧ Longest rs m
theorem rowsFit.mono {H H' : Hp} {rows : List Rw} {rs : List Rl} (z : rowsFit K H rows rs) (hT : ∀ a xs, SqT K H a xs → SqT K H' a xs) : rowsFit K H' rows rs := ⟨fun k v e => let ⟨r, h1, h2, h3⟩ := z.1 k v e; ⟨r, h1, h2, h3.mono hT⟩, z.2⟩
theorem TabAt.same {H H' : Hp} {CT a : Addr} {rs : List Rl} (z : TabAt P w K CT H a rs) (s : Same H H') : TabAt P w K CT H' a rs :=
  let ⟨dx, t, d, xs, rows, m, h1, h2, h3, h4, h5, h6, h7⟩ := z; ⟨dx, t, d, xs, rows, m, s _ _ h1, same_T s h2, h3.same s, h4, h5.same s, (h6.mono fun _ _ q => same_T s q), h7⟩
/-- what the class is -/
structure Tcl (K : PySem.W.Frag) (CT : Addr) : Prop where
  cls : Cls K CT
  no1 : NoAttr K CT "_rules"
  no2 : NoAttr K CT "_found"
  no3 : NoAttr K CT "_longest"
def spInit (P : Program) (w : World) (K : PySem.W.Frag) (CT : Addr) : Sp := fun vs H Q _ => ∃ (a dx la : Addr) (xs : List V) (rs : List Rl), vs = [.ref a, .ref la] ∧ H a = some (.ins CT dx []) ∧ SqL K H la xs ∧ Rules K H xs rs ∧ Good rs ∧
  ∀ H', (∀ b o, b ≠ a → H b = some o → H' b = some o) → TabAt P w K CT H' a (sortR rs) → Q .non H'
theorem scTab : FnScope ["self", "rules", "rule", "found"] ["self", "rules"] (defScope sInit) := ⟨rfl, rfl, rfl, by decide +kernel, rfl, by decide +kernel, by decide +kernel⟩
theorem ok_init {CT : Addr} {dvs : List V} (Fd : FunD K "__init__" "Table.__init__" (defArgs sInit) (defBody sInit) (defScope sInit) dvs [] f fd) (T : Tx mg) (Y : Ty mg) (C : Tcl K CT) (DR : Df P w K mg base 5 "is_rule" ["value"] (spRule K)) (DK : Df P w K mg base 2 "rule_key" ["rule"] (spRK K)) :
    FnOk P w K mg base CX0 6 f fd ["self", "rules"] (spInit P w K CT) := by
  refine Fd.ok0 scTab (fun vs H Q E h => ?_) (fun cdv A outer s H vs Q E hr h => ?_)
  · obtain ⟨a, dx, la, xs, rs, rfl, _⟩ := h
    rfl
  · obtain ⟨a, dx, la, xs, rs, rfl, ha, hl, hR, hG, q⟩ := h
    obtain ⟨tm, hm⟩ := Y.mr
    obtain ⟨fk, fdk, gk, kk, bk, FK⟩ := DK.ex
    have hu : (A.deeper (envOfC "Table.__init__" (defScope sInit) s.heap.objs.size f cdv)).units + 64 < cLine := hr.units
    have nd := scTab.nd
    refine ⟨_, pss_cons (ps_for PassesOwn.never rfl (pi_list (pv 1)) (pg_name (i := 2) nd rfl (Or.inl rfl)) (pss_one (ps_if (pt_not (pt_val (pe_df DR hr (pa_cons (pv 2) pa_nil)))) pss_dead pss_nil)))
      (pss_cons (ps_setDcN (i := 3) (own := [("rule", 2)]) (g := gName 2) (Nat.lt_of_le_of_lt (Nat.add_le_add_left (by decide) _) hr.units) (by rfl) nd rfl rfl (sw_dict rfl rfl rfl rfl) (pi_list (pv 1)) (blkOk_by (own := [("rule", 2)]) (N := ["self", "rules", "rule", "found"]) (sc := defScope sInit) (by decide +kernel))
          (fun _ _ _ _ _ => pg_name (i := 2) nd rfl (Or.inl rfl)) (fun _ _ _ _ _ => pe_slice (r := rSlW K) sl_tupK (pv 2) po_none (po_some pe_int)) (fun _ _ _ _ _ => pv 2))
      (pss_cons (ps_if (PW.pt (pw_or (pt_cmpR op_gt (pe_callB call_len_seq (by rfl) T.len PySem.boot_len (pa_cons (pv 1) pa_nil)) (pe_glob (v := .int 40) (by rfl) hm ⟨_, rfl⟩) (nomark _))
          (pw_or1 (pt_cmpR op_lt (pe_callB call_lenN (by rfl) T.len PySem.boot_len (pa_cons (pv 3) pa_nil)) (pe_callB call_len_seq (by rfl) T.len PySem.boot_len (pa_cons (pv 1) pa_nil)) (nomark _))))) pss_dead pss_nil)
      (pss_cons (ps_fld (pv 0) (pe_callTy call_tuple_of (by rfl) T.tuple (by decide +kernel) (pa_cons (pe_callBK (cr_sortK FK (hr.mono (by decide)) bk) (by rfl) Y.sorted boot_sorted (pa_cons (pv 1) pa_nil) (pk_cons (pe_glob (v := .ref fk) (by rfl) gk rfl) pk_nil)) pa_nil)) rfl)
      (pss_cons (ps_fld (pv 0) (pv 3) rfl)
      (pss_one (ps_fld (pv 0) (pe_callBK (cr_maxDf rfl (Nat.lt_of_le_of_lt (Nat.add_le_add_left (by decide) _) hr.units)) (by rfl) T.max PyProof.Rows.boot_max (pa_cons (pe_lc (own := [("rule", 2)]) (g := gName 2) (tt := tYes) (by rfl) nd (pi_list (pv 1)) (blkOk_by (own := [("rule", 2)]) (N := ["self", "rules", "rule", "found"]) (sc := defScope sInit) (by decide +kernel))
        (fun _ _ _ _ _ => pg_name (i := 2) nd rfl (Or.inl rfl)) (fun _ _ _ _ _ => pts_nil) (fun _ _ _ _ _ => pe_callB (r := rLenK K) call_lenK (by rfl) T.len PySem.boot_len (pa_cons (pe_ix (r := rIxT K) ix_tupK (pv 2) pe_int (fun _ _ => rfl)) pa_nil))) pa_nil) (pk_cons pe_int pk_nil)) rfl)))))), ?_⟩
    refine ⟨_, rfl, la, rfl, ⟨_, hl⟩, for_list (K := K) (a := la) (xs := xs) (fun j σ G => G = H ∧ ∃ u, σ = [some (.ref a), some (.ref la), u, none]) ⟨rfl, none, rfl⟩ (fun j σ G _ h => by rw [h.1]; exact hl) ?_ ?_⟩
    · rintro j x σ G hx ⟨rfl, u, rfl⟩
      obtain ⟨r, h1, h2⟩ := hR.get hx
      have hk := hG.ok r (List.mem_of_getElem? h1)
      refine ⟨_, rfl, x, r.d, rfl, h2.dd, hk.fit, _, rfl, ?_⟩
      rw [hk.rule]
      exact iteF ⟨rfl, _, rfl⟩
    · rintro σ G ⟨rfl, u, rfl⟩
      refine ⟨_, rfl, la, rfl, ⟨_, hl⟩, fun D hD low => ?_⟩
      refine dc_list (K := K) (a := la) (xs := xs) (fun i G1 => Same G G1 ∧ ∃ rows, KD P w K G1 D rows ∧ rows.length = i ∧ rowsFit K G1 rows (rs.take i)) ⟨Same.new hD, [], ⟨upd_same, low, Nat.zero_le _, fun x hx => nomatch hx⟩, rfl, (fun k v e => nomatch e), fun r hr => by rw [List.take_zero] at hr; cases hr⟩
        (fun i G1 _ h => h.1.seq hl) ?_ ?_
      · rintro i x G1 hx ⟨s1, rows, kd, hn, fit⟩
        obtain ⟨r, h1, h2⟩ := hR.get hx
        have hi : i < rs.length := (List.getElem?_eq_some_iff.mp h1).1
        obtain ⟨ra, rp, ry, rfl, t1, t2, t3⟩ := h2.same s1
        refine ⟨rfl, ?_⟩
        refine ⟨_, rfl, _, rfl, ra, _, rfl, t1, fun kp G2 s2 k1 => ⟨_, rfl, ?_⟩⟩
        rw [cutV_two] at k1
        have t4 := same_T s2 t2
        have kd2 := kd.same s2
        have r2 : RuleAt K G2 (.ref ra) r := ⟨ra, rp, ry, rfl, same_T s2 t1, t4, AnAt.mono t3 fun _ _ q => same_T s2 q⟩
        have fit2 : rowsFit K G2 rows (rs.take i) := fit.mono fun _ _ q => same_T s2 q
        have no : kGet rows r.key = none := by
          cases e : kGet rows r.key with
          | none => rfl
          | some v =>
            obtain ⟨r', hr', ek, _⟩ := fit.1 _ _ e
            obtain ⟨j, hj⟩ := List.getElem?_of_mem hr'
            have hji : j < i := by
              have := (List.getElem?_eq_some_iff.mp hj).1
              rw [List.length_take] at this
              omega
            rw [List.getElem?_take, if_pos hji] at hj
            have e1 : (rs.map Rl.key)[j]? = some r.key := by rw [List.getElem?_map, hj]; exact congrArg some ek
            have e2 : (rs.map Rl.key)[i]? = some r.key := by rw [List.getElem?_map, h1]; rfl
            have := (List.getElem?_inj (by rw [List.length_map]; omega) hG.one).mp (e1.trans e2.symm)
            omega
        have put : kPut rows r.key kp (.ref ra) = rows ++ [(r.key, kp, .ref ra)] := by
          unfold kPut
          rw [no]
          rfl
        have hT : ∀ b ys, SqT K G2 b ys → SqT K (upd G2 D (kdO P w D (kPut rows r.key kp (.ref ra)))) b ys := fun b ys z => sqT_kd kd2.at_ z
        refine ⟨kp, r.key, rows, rfl, nis_key k1 t4, key_deep _ _, kd2, fun b o e => ?_, kPut rows r.key kp (.ref ra), ⟨upd_same, low, ?_, fun y hy => ?_⟩, by rw [put]; simp [hn], fun k v e => ?_, fun r' hr' => ?_⟩
        · rw [upd_ne (ne_of_none e hD)]
          exact s2 _ _ (s1 b o e)
        · have h40 := hG.few
          rw [put, List.length_append, hn]
          simp
          omega
        · rw [put] at hy
          rcases List.mem_append.mp hy with hy | hy
          · exact ⟨nis_mono hT (kd2.key y hy).1, (kd2.key y hy).2⟩
          · rw [List.mem_singleton.mp hy]
            exact ⟨nis_mono hT (nis_key k1 t4), key_deep _ _⟩
        · rw [put, kGet_snoc] at e
          have tk : rs.take (i + 1) = rs.take i ++ [r] := by rw [List.take_add_one, h1]; rfl
          cases e3 : kGet rows k with
          | some u =>
            rw [e3] at e
            cases e
            obtain ⟨r', m1, m2, m3⟩ := fit2.1 k v e3
            exact ⟨r', by rw [tk]; exact List.mem_append_left _ m1, m2, m3.mono hT⟩
          | none =>
            rw [e3] at e
            by_cases ek : r.key = k
            · rw [if_pos ek] at e
              cases e
              exact ⟨r, by rw [tk]; simp, ek, r2.mono hT⟩
            · rw [if_neg ek] at e
              cases e
        · rw [put, kGet_snoc]
          cases e3 : kGet rows r'.key with
          | some u => rfl
          | none =>
            rw [List.take_add_one, h1] at hr'
            rcases List.mem_append.mp hr' with m | m
            · have := fit.2 r' m
              rw [e3] at this
              cases this
            · have e4 : r' = r := by simpa using m
              rw [e4, if_pos rfl]
              rfl
      · rintro G1 ⟨s1, rows, kd, hn, fit⟩
        have ln := hR.length
        have few := hG.few
        rw [List.take_of_length_le (by omega)] at fit
        refine ⟨_, rfl, la, xs, rfl, .inl (s1.seq hl), _, _, rfl, rfl, _, rfl, ?_⟩
        rw [decide_eq_false (by omega)]
        refine iteF ⟨_, rfl, D, rows, rfl, kd, _, rfl, la, xs, rfl, .inl (s1.seq hl), _, _, rfl, rfl, _, rfl, ?_⟩
        rw [decide_eq_false (by omega)]
        have zz := zip_fst ln
        have hR1 := hR.same s1
        refine iteF ⟨_, rfl, la, (xs.zip rs).map zOf, rfl, rfl, ?_, ?_, ?_, ?_, ?_, fun H2 q1 s2 hq nq => ⟨q1, _, rfl, .inl ⟨.of upd_same, fun t ht => ⟨_, rfl, a, CT, dx, [], rfl, ?_, C.cls, C.no1, (by decide), ?_⟩⟩⟩⟩
        · rw [List.map_map]
          show SqL K G1 la ((xs.zip rs).map (·.1))
          rw [zz.1]
          exact s1.seq hl
        · rw [List.length_map, List.length_zip]
          omega
        · intro d hd d' hd'
          simp only [List.map_map, List.mem_map] at hd hd'
          obtain ⟨p1, _, rfl⟩ := hd
          obtain ⟨p2, _, rfl⟩ := hd'
          exact kd_alike _ _
        · refine .inl fun d hd => ?_
          simp only [List.map_map, List.mem_map] at hd
          obtain ⟨p1, _, rfl⟩ := hd
          exact ⟨_, _, rfl⟩
        · intro z hz
          obtain ⟨p1, hp, rfl⟩ := List.mem_map.mp hz
          exact ⟨kd_bare _, kd_deep _, fun H1 sH => ⟨p1.1, p1.2, rfl, (rules_zip hR1 p1 hp).same sH, fun y H' sy dy => ⟨sy, dy⟩⟩⟩
        · exact (Same.new ht) _ _ ((Same.new hq) _ _ (s2 _ _ (s1 _ _ ha)))
        have s3 := s2.trans ((Same.new (o := .lst ((((xs.zip rs).map zOf).mergeSort (PySem.W.dataLe false Prod.snd)).map Prod.fst)) hq).trans (Same.new (o := .tup ((((xs.zip rs).map zOf).mergeSort (PySem.W.dataLe false Prod.snd)).map Prod.fst)) ht))
        have ht3 := upd_same (H := upd H2 q1 (.lst ((((xs.zip rs).map zOf).mergeSort (PySem.W.dataLe false Prod.snd)).map Prod.fst))) (a := t) (o := .tup ((((xs.zip rs).map zOf).mergeSort (PySem.W.dataLe false Prod.snd)).map Prod.fst))
        have hR3 := sorted_rules (hR1.same s3)
        generalize (((xs.zip rs).map zOf).mergeSort (PySem.W.dataLe false Prod.snd)).map Prod.fst = ys at s3 ht3 hR3 ⊢
        generalize upd (upd H2 q1 (.lst ys)) t (.tup ys) = G3 at s3 ht3 hR3 ⊢
        have ha3 : G3 a = some (.ins CT dx []) := s3 _ _ (s1 _ _ ha)
        refine ⟨_, rfl, _, rfl, a, CT, dx, _, rfl, upd_same, C.cls, C.no2, (show 1 < 1000 by decide), ?_⟩
        have hT : ∀ b zs, SqT K G3 b zs → SqT K (upd (upd G3 a (.ins CT dx (putF "_rules" (.ref t) []))) a (.ins CT dx (putF "_found" (.ref D) (putF "_rules" (.ref t) [])))) b zs := fun b zs z => sqT_ins (upd_same) (sqT_ins ha3 z)
        have hD3 : G3 D = some (kdO P w D rows) := s3 _ _ kd.at_
        have nDa : D ≠ a := ne_of hD3 ha3 fun e => nomatch e
        have off : ∀ b o, b ≠ a → G3 b = some o → (upd (upd G3 a (.ins CT dx (putF "_rules" (.ref t) []))) a (.ins CT dx (putF "_found" (.ref D) (putF "_rules" (.ref t) [])))) b = some o := fun b o nb e => by
          rw [upd_ne nb, upd_ne nb]
          exact e
        have at4 := upd_same (H := upd G3 a (.ins CT dx (putF "_rules" (.ref t) []))) (a := a) (o := .ins CT dx (putF "_found" (.ref D) (putF "_rules" (.ref t) [])))
        have hl4 : SqL K (upd (upd G3 a (.ins CT dx (putF "_rules" (.ref t) []))) a (.ins CT dx (putF "_found" (.ref D) (putF "_rules" (.ref t) [])))) la xs := by
          rcases s3.seq (s1.seq hl) with (h | ⟨o, h⟩) | h
          · exact .inl (.inl (off _ _ (ne_of h ha3 fun e => nomatch e) h))
          · exact .inl (.inr ⟨o, off _ _ (ne_of h ha3 fun e => nomatch e) h⟩)
          · exact .inr h
        have hR4 := (hR1.same s3).mono hT
        generalize upd (upd G3 a (.ins CT dx (putF "_rules" (.ref t) []))) a (.ins CT dx (putF "_found" (.ref D) (putF "_rules" (.ref t) []))) = G4 at hT off at4 hl4 hR4 ⊢
        refine ⟨_, rfl, la, rfl, ⟨_, hl4⟩, fun L hL => ?_⟩
        refine lc_list (K := K) (a := la) (xs := xs) (fun i G5 => Same G4 G5 ∧ G5 L = some (.lst (((rs.take i).map fun r => (r.pl.length : Int)).map V.int))) ⟨Same.new hL, upd_same⟩ (fun i G5 _ h => h.1.seq hl4) ?_ ?_
        · rintro i x G5 hx ⟨s5, h5⟩
          obtain ⟨r, h1, h2⟩ := hR4.get hx
          have hi : i < rs.length := (List.getElem?_eq_some_iff.mp h1).1
          obtain ⟨ra, rp, ry, rfl, t1, t2, t3⟩ := h2.same s5
          refine ⟨rfl, ?_⟩
          show tCB (rLenK K) (tCons (tOp (rIxT K) (tVar 2) (tC (V.int 1))) tNil) _ _ _
          refine ⟨_, rfl, ra, _, _, _, rfl, rfl, t1, at1, rp, _, rfl, .inr t2, _, h5, ?_, ?_⟩
          · rw [List.length_map, List.length_map, List.length_take]
            exact Nat.lt_of_le_of_lt (show min i rs.length ≤ 40 by omega) (by decide)
          · have e : ((rs.take (i + 1)).map fun r => (r.pl.length : Int)).map V.int = ((rs.take i).map fun r => (r.pl.length : Int)).map V.int ++ [V.int ((r.pl.map V.str).length : Int)] := by
              rw [List.take_add_one, h1, List.length_map]
              simp
            refine ⟨fun b o eb => ?_, ?_⟩
            · rw [upd_ne (ne_of_none eb hL)]
              exact s5 _ _ eb
            · rw [upd_same, e]
        · rintro G5 ⟨s5, h5⟩
          rw [List.take_of_length_le (by omega)] at h5
          refine ⟨L, rs.map fun r => (r.pl.length : Int), 0, rfl, rfl, .of h5, fun m m0 m1 m2 => ?_⟩
          have hlong : Longest rs m := by
            refine ⟨?_, ?_, fun r hr => m2 _ (List.mem_map.mpr ⟨r, hr, rfl⟩)⟩
            · cases rs with
              | nil => rw [m0 rfl]; decide
              | cons r rs => exact Int.le_trans (Int.ofNat_nonneg _) (m2 _ (List.mem_map.mpr ⟨r, List.mem_cons_self, rfl⟩))
            · cases rs with
              | nil => rw [m0 rfl]; decide
              | cons r rs =>
                obtain ⟨r2, hr2, e2⟩ := List.mem_map.mp (m1 (by simp))
                rw [← e2]
                have := (hG.ok r2 hr2).len
                omega
          refine ⟨_, rfl, a, CT, dx, _, rfl, s5 _ _ at4, C.cls, C.no3, (show 2 < 1000 by decide), ?_⟩
          have hT5 : ∀ b zs, SqT K G3 b zs → SqT K (upd G5 a (.ins CT dx (putF "_longest" (.int m) (putF "_found" (.ref D) (putF "_rules" (.ref t) []))))) b zs := fun b zs z => sqT_ins (s5 _ _ at4) (same_T s5 (hT _ _ z))
          refine q _ (fun b o nb e => ?_) ⟨dx, t, D, ys, rows, m, ?_, hT5 _ _ (.of ht3), hR3.mono hT5, ⟨fun r hr => hG.ok r ((sortR_perm rs).mem_iff.mp hr), by rw [(sortR_perm rs).length_eq]; exact hG.few, sortR_nodup hG.one⟩, ⟨?_, low, kd.few, fun x hx => ⟨nis_mono (fun b zs z => hT5 b zs (same_T s3 z)) (kd.key x hx).1, (kd.key x hx).2⟩⟩, ?_, ⟨hlong.1, hlong.2.1, fun r hr => hlong.2.2 r ((sortR_perm rs).mem_iff.mp hr)⟩⟩
          · rw [upd_ne nb]
            exact s5 _ _ (off _ _ nb (s3 _ _ (s1 _ _ e)))
          · rw [upd_same]
            rfl
          · rw [upd_ne nDa]
            exact s5 _ _ (off _ _ nDa hD3)
          · have f3 := fit.mono fun b zs z => hT5 b zs (same_T s3 z)
            exact ⟨fun k v e => let ⟨r, m1, m2, m3⟩ := f3.1 k v e; ⟨r, (sortR_perm rs).mem_iff.mpr m1, m2, m3⟩, fun r hr => f3.2 r ((sortR_perm rs).mem_iff.mp hr)⟩
end
end K28
namespace K28
open PySem L2 Ld PyProof.Rows
abbrev sRules : Stmt := meth 1
abbrev sLen : Stmt := meth 2
abbrev sEq : Stmt := meth 4
abbrev sFor : Stmt := meth 6
/-! ### == of rules -/
theorem eqv_str (x y : Str) : PyData.eqv (.str x) (.str y) = decide (x = y) := by
  simp only [PyData.eqv]
  by_cases h : x = y
  · subst h
    simp
  · rw [decide_eq_false h]
    exact beq_eq_false_iff_ne.mpr h
theorem eqv_int (x y : Int) : PyData.eqv (.int x) (.int y) = decide (x = y) := by
  simp only [PyData.eqv]
  by_cases h : x = y
  · subst h
    simp
  · rw [decide_eq_false h]
    exact beq_eq_false_iff_ne.mpr h
theorem beq_str (x y : Str) : (x == y) = decide (x = y) := by
  by_cases h : x = y
  · subst h
    simp
  · rw [decide_eq_false h]
    exact beq_eq_false_iff_ne.mpr h
theorem beq_int (x y : Int) : (x == y) = decide (x = y) := by
  by_cases h : x = y
  · subst h
    simp
  · rw [decide_eq_false h]
    exact beq_eq_false_iff_ne.mpr h
theorem eqv_an (b : Bool) (x y : An) : PyData.eqv (x.d b) (y.d b) = decide (x = y) := by
  have w1 : ¬ (("gone" : Str) = ownS b) := by cases b <;> decide +kernel
  cases x <;> cases y <;> simp [An.d, PyData.eqv, PyData.eqvAll, eqv_wt, beq_str, beq_int]
theorem eqv_rl (x y : Rl) : PyData.eqv x.d y.d = decide (x = y) := by
  obtain ⟨e1, p1, a1⟩ := x
  obtain ⟨e2, p2, a2⟩ := y
  show (PyData.eqv (.str (sortS e1)) (.str (sortS e2)) && (PyData.eqv (wt p1) (wt p2) && (PyData.eqv (a1.d e1) (a2.d e2) && true))) = _
  rw [eqv_str, eqv_wt, Bool.and_true]
  by_cases h : e1 = e2
  · subst h
    rw [eqv_an, decide_eq_true rfl, Bool.true_and]
    by_cases h2 : p1 = p2
    · subst h2
      by_cases h3 : a1 = a2
      · subst h3
        simp
      · rw [decide_eq_false h3, Bool.and_false, decide_eq_false fun e => h3 (by injection e)]
    · rw [decide_eq_false h2, Bool.false_and, decide_eq_false fun e => h2 (by injection e)]
  · rw [decide_eq_false fun e => h (sortS_inj e), Bool.false_and, decide_eq_false fun e => h (by injection e)]
theorem eqv_rls : ∀ xs ys : List Rl, PyData.eqvAll (xs.map Rl.d) (ys.map Rl.d) = decide (xs = ys)
  | [], [] => rfl
  | [], _ :: _ => rfl
  | _ :: _, [] => rfl
  | x :: xs, y :: ys => by
    show (PyData.eqv x.d y.d && PyData.eqvAll (xs.map Rl.d) (ys.map Rl.d)) = _
    rw [eqv_rl, eqv_rls xs ys]
    by_cases h1 : x = y
    · subst h1
      by_cases h2 : xs = ys
      · subst h2
        simp
      · rw [decide_eq_false h2, Bool.and_false, decide_eq_false fun e => h2 (List.cons.inj e).2]
    · rw [decide_eq_false h1, Bool.false_and, decide_eq_false fun e => h1 (List.cons.inj e).1]
theorem ok_str {z : Str} (h : ascB z = true) : PyData.strOk z = true := by
  unfold PyData.strOk
  rw [arr_all]
  exact List.all_eq_true.mpr fun c hc => decide_eq_true (Nat.lt_trans ((asc_of h).2 c hc) (by decide))
theorem lay_wt {ws : List Str} (h : ∀ z ∈ ws, Wd z) : (wt ws).canLay0 = true := by
  unfold wt
  simp only [PyData.canLay0]
  exact lay_words fun z hz => (h z hz).low
theorem lay_an {a : An} (b : Bool) (h : a.Ok) : (a.d b).canLay0 = true := by
  cases a with
  | gone => simp [An.d, PyData.canLay0, PyData.canLayAll0, ok_str asc_gone]
  | own z => simp [An.d, PyData.canLay0, PyData.canLayAll0, ok_str (asc_own b), ok_str (Wd.asc h)]
  | to ws n =>
    obtain ⟨h1, h2, _⟩ := h
    simp [An.d, PyData.canLay0, PyData.canLayAll0, ok_str asc_to, lay_wt h2]
theorem lay_rl {r : Rl} (h : r.Ok) : r.d.canLay0 = true := by
  simp [Rl.d, PyData.canLay0, PyData.canLayAll0, ok_str (asc_sort r.ex), lay_wt h.wds, lay_an r.ex h.an]
theorem deep_an (a : An) (b : Bool) : (a.d b).depth ≤ 2 := by
  have h := depth_words
  cases a <;> simp [An.d, wt, PyData.depth, PyData.depthAll, h]
theorem deep_rl (r : Rl) : r.d.depth ≤ 3 := by
  have h := depth_words r.pl
  have h2 := deep_an r.an r.ex
  simp only [Rl.d, wt, PyData.depth, PyData.depthAll, h]
  omega
theorem lay_rls : ∀ {rs : List Rl}, (∀ r ∈ rs, r.Ok) → PyData.canLayAll0 (rs.map Rl.d) = true
  | [], _ => rfl
  | r :: rs, h => by
    simp only [List.map_cons, PyData.canLayAll0, lay_rl (h r List.mem_cons_self), lay_rls fun x hx => h x (List.mem_cons_of_mem _ hx), Bool.and_self]
theorem deep_rls : ∀ rs : List Rl, PyData.depthAll (rs.map Rl.d) ≤ 3
  | [] => Nat.zero_le _
  | r :: rs => by
    have h1 := deep_rl r
    have h2 := deep_rls rs
    simp only [List.map_cons, PyData.depthAll]
    omega
theorem shaped_rls {rs : List Rl} (h : ∀ r ∈ rs, r.Ok) : SeqAt.shaped (.tuple (rs.map Rl.d)) = true := by
  unfold SeqAt.shaped
  have h1 := deep_rls rs
  have h2 : (PyData.tuple (rs.map Rl.d)).depth ≤ 64 := by
    simp only [PyData.depth]
    omega
  rw [decide_eq_true h2]
  simp only [PyData.canLay0, lay_rls h, Bool.and_self]
/-! ### what a table says -/
section
variable {P : Program} {w : World} {K : PySem.W.Frag} {mg : Str → Option Value} {base : Heap} {f : Addr} {fd : FuncData} {CT : Addr}
def spRules (P : Program) (w : World) (K : PySem.W.Frag) (CT : Addr) : Sp := fun vs H Q _ => ∃ (a : Addr) (rs : List Rl), vs = [.ref a] ∧ TabAt P w K CT H a rs ∧ ∀ p xs H', Same H H' → SqT K H' p xs → Rules K H' xs rs → Q (.ref p) H'
theorem scRules : FnScope ["self"] ["self"] (defScope sRules) := ⟨rfl, rfl, rfl, by decide +kernel, rfl, by decide +kernel, by decide +kernel⟩
theorem ok_rules (Fd : Fun K "rules" "Table.rules" sRules f fd) (T : Tx mg) (C : Tcl K CT) : FnOk P w K mg base CX0 1 f fd ["self"] (spRules P w K CT) := by
  refine Fd.ok scRules (fun vs H Q E h => ?_) (fun cdv A outer s H vs Q E hr h => ?_)
  · obtain ⟨a, rs, rfl, _⟩ := h
    rfl
  · obtain ⟨a, rs, rfl, ⟨dx, t, d, xs, rows, mx, h1, h2, h3, h4, h5, h6, h7⟩, q⟩ := h
    refine ⟨_, pss_one (ps_ret (pe_callTy call_tuple_of (by rfl) T.tuple (by decide +kernel) (pa_cons (pe_callTy call_list_of (by rfl) T.list (by decide +kernel) (pa_cons (pe_fld (pv 0) rfl) pa_nil)) pa_nil))), ?_⟩
    refine ⟨_, rfl, a, CT, dx, _, .ref t, rfl, h1, C.cls, C.no1, rfl, t, _, rfl, .inr h2, fun l hl => ⟨l, _, rfl, .inl ⟨.of upd_same, fun p hp => ?_⟩⟩⟩
    have s1 := (Same.new (o := .lst xs) hl).trans (Same.new (o := .tup xs) hp)
    exact q p xs _ s1 (.of upd_same) (h3.same s1)
def spLen (P : Program) (w : World) (K : PySem.W.Frag) (CT : Addr) : Sp := fun vs H Q _ => ∃ (a : Addr) (rs : List Rl), vs = [.ref a] ∧ TabAt P w K CT H a rs ∧ Q (.int (rs.length : Int)) H
theorem scLen : FnScope ["self"] ["self"] (defScope sLen) := ⟨rfl, rfl, rfl, by decide +kernel, rfl, by decide +kernel, by decide +kernel⟩
theorem ok_len (Fd : Fun K "__len__" "Table.__len__" sLen f fd) (T : Tx mg) (C : Tcl K CT) : FnOk P w K mg base CX0 1 f fd ["self"] (spLen P w K CT) := by
  refine Fd.ok scLen (fun vs H Q E h => ?_) (fun cdv A outer s H vs Q E hr h => ?_)
  · obtain ⟨a, rs, rfl, _⟩ := h
    rfl
  · obtain ⟨a, rs, rfl, ⟨dx, t, d, xs, rows, mx, h1, h2, h3, h4, h5, h6, h7⟩, q⟩ := h
    refine ⟨_, pss_one (ps_ret (pe_callB call_len_seq (by rfl) T.len PySem.boot_len (pa_cons (pe_fld (pv 0) rfl) pa_nil))), ?_⟩
    refine ⟨_, rfl, a, CT, dx, _, .ref t, rfl, h1, C.cls, C.no1, rfl, t, xs, rfl, .inr h2, ?_⟩
    rw [h3.length]
    exact q
def spEq (P : Program) (w : World) (K : PySem.W.Frag) (CT : Addr) : Sp := fun vs H Q _ => ∃ (a b : Addr) (rs ts : List Rl), vs = [.ref a, .ref b] ∧ TabAt P w K CT H a rs ∧ TabAt P w K CT H b ts ∧ Q (.bl (decide (rs = ts))) H
theorem scEq : FnScope ["self", "other"] ["self", "other"] (defScope sEq) := ⟨rfl, rfl, rfl, by decide +kernel, rfl, by decide +kernel, by decide +kernel⟩
theorem ok_eq (Fd : Fun K "__eq__" "Table.__eq__" sEq f fd) (T : Tx mg) (C : Tcl K CT) (I : C8.InsC K CT) (gT : mg "Table" = some (.ref CT)) : FnOk P w K mg base CX0 1 f fd ["self", "other"] (spEq P w K CT) := by
  refine Fd.ok scEq (fun vs H Q E h => ?_) (fun cdv A outer s H vs Q E hr h => ?_)
  · obtain ⟨a, b, rs, ts, rfl, _⟩ := h
    rfl
  · obtain ⟨a, b, rs, ts, rfl, ⟨dx, t, d, xs, rows, mx, h1, h2, h3, h4, h5, h6, h7⟩, ⟨dy, u, d', ys, rows', my, g1, g2, g3, g4, g5, g6, g7⟩, q⟩ := h
    refine ⟨_, pss_one (ps_ret (pe_and (pe_callB (C8.call_isC I) (by rfl) T.isi bootN (pa_cons (pv 1) (pa_cons (pe_glob (v := .ref CT) (by rfl) gT rfl) pa_nil)))
      (pe_one (pe_cmpR (op_eqD hr.units) (pe_fld (pv 0) rfl) (pe_fld (pv 1) rfl) (nomark _))))), ?_⟩
    refine ⟨_, rfl, b, dy, _, rfl, g1, _, rfl, ?_⟩
    refine iteT ⟨_, rfl, a, CT, dx, _, .ref t, rfl, h1, C.cls, C.no1, rfl, _, rfl, b, CT, dy, _, .ref u, rfl, g1, C.cls, C.no1, rfl, .tuple (rs.map Rl.d), .tuple (ts.map Rl.d), .tup h2 h3.dp, .tup g2 g3.dp, shaped_rls h4.ok, shaped_rls g4.ok, ?_⟩
    simp only [PyData.eqv]
    rw [eqv_rls]
    exact q
end
end K28
/-! not in, {k: v} of dicts whose keys hold tuples. -/
namespace Ld
open PySem L2 PyProof.Rows
section
variable {X : Cx}
/-- key not in d -/
def rNotInN (P : Program) (w : World) (K : PySem.W.Frag) : R2 := fun x y H Q => ∃ (b d : Addr) (k : NestedKey) (xs : List Rw), x = .ref b ∧ y = .ref d ∧ NIs K H k (.ref b) ∧ k.depth ≤ 8 ∧ KD P w K H d xs ∧ Q (.bl (!(kGet xs k).isSome)) H
theorem op_notInN (hu : X.A.units + 16 < cLine) : OpR X (compareOp .NotIn) (rNotInN X.prog X.w X.K) := by
  intro pins0 s0 σ0 H0 x0 y0 v0 u0 Q0 I0 rx0 ry0 ⟨b, d, k, xs, e1, e2, hk, hd, z, q0⟩
  subst e1 e2
  cases rx0
  cases ry0
  obtain ⟨ys, p, m⟩ := z.dict I0.hok I0.kIn
  refine wpAny_notIn_heap (kroom hu) ⟨nis_is I0.hok I0.kIn hk rfl, hd⟩ z.low m ?_
  rw [(rows_get k p).1]
  exact ⟨.bl _, H0, I0.tok _, rfl, q0⟩
/-- {key: value} -/
def tDisp1N (P : Program) (w : World) (K : PySem.W.Frag) (trs : List (TE × TE)) : TE := fun σ H Q => ∀ p, H p = none → (p == sysModules) = false → tPairs trs σ (upd H p (kdO P w p [])) fun ps H2 => ∃ (kb : Addr) (k : NestedKey) (v : V), ps = [(.ref kb, v)] ∧ NIs K H2 k (.ref kb) ∧ k.depth ≤ 8 ∧
  H2 p = some (kdO P w p []) ∧ Q (.ref p) (upd H2 p (kdO P w p (kPut [] k kb v)))
theorem pe_disp1N {pos : Pos} {ke : Option Expr} {ve : Expr} {trs : List (TE × TE)} (hu : X.A.units + 16 < cLine) (h : PPs X pos [ke] [ve] trs) (hall : [ke].all (·.isSome) = true) : PE X (.Dict [ke] [ve] pos) (tDisp1N X.prog X.w X.K trs) := by
  refine ⟨fun pins0 s0 σ0 H0 Q0 I0 q0 => ?_⟩
  have low : (s0.heap.objs.size == sysModules) = false := beq_eq_false_iff_ne.mpr (Nat.ne_of_gt I0.big)
  have I1 := I0.laid (a := s0.heap.objs.size) (o := kdO X.prog X.w s0.heap.objs.size []) (t' := s0.toks) (h' := s0.heap.push { cls := .type "dict", data := .dict #[] }) (fun b0 o0 q => Heap.get?_push_of_some _ q) (Nat.le_refl _) (kdO_ok .nil (Heap.DictOfH.new s0.heap))
  refine wpAny_Dict_any hall rfl (by simp) (show 1 ≤ 15 by decide) (thn (h.run pins0 _ σ0 _ _ I1 (q0 _ I0.fresh low)) fun ws s2 ⟨ps, H2, I2, rel, kb, k, v, e, hk, hd, at2, q2⟩ => ?_)
  subst e
  cases rel with
  | @cons a b as bs r t =>
    cases t
    obtain ⟨b1, b2⟩ := b
    obtain ⟨r1, r2⟩ := r
    cases r1
    show wpAny _ _ (forIn [(Value.ref kb, b2)] PUnit.unit fun p r => do dictSet s0.heap.objs.size p.1 p.2; pure (ForInStep.yield PUnit.unit)) _ _ s2
    rw [List.forIn_cons]
    refine wpAny_bind (wpAny_bind (dset_kd hu I2 hk hd ⟨at2, low, Nat.zero_le _, fun x hx => nomatch hx⟩ r2 fun s3 I3 => wpAny_pure ?_))
    exact wpAny_pure ⟨.ref s0.heap.objs.size, _, I3, rfl, q2⟩
/-! ### such a dict walked, locked meanwhile -/
structure KDL (P : Program) (w : World) (K : PySem.W.Frag) (H : Hp) (o : Obj) (d : Addr) (xs : List Rw) : Prop where
  at_ : H d = some (.frz o (kdO P w d xs))
  low : (d == sysModules) = false -- apart from the modules
  few : xs.length ≤ 1000
  key : ∀ x ∈ xs, NIs K H x.1 (.ref x.2.1) ∧ x.1.depth ≤ 8
theorem KDL.dict {P : Program} {w : World} {K : PySem.W.Frag} {H : Hp} {h : Heap} {o : Obj} {d : Addr} {xs : List Rw} (z : KDL P w K H o d xs) (ok : HOk P w H h) (kin : K.In h) : ∃ ys, Paired KR xs ys ∧ h.DictOfH (nestedKind P w) d ys := by
  have q : ObjOk P w H h d (.frz o (kdO P w d xs)) := ok d _ z.at_
  obtain ⟨_, ⟨ys, p, o', es, ep, ho, hc, hd, he, hn⟩, _⟩ := q
  refine ⟨ys, p, o', es, ep, ho, hc, hd, he, fun y hy => ?_, hn⟩
  have key : ∀ {l : List Rw} {m : List (NestedKey × Addr × Value)}, Paired KR l m → ∀ y ∈ m, ∃ x ∈ l, KR x y := by
    intro l m q
    induction q with
    | nil => exact fun y hy => nomatch hy
    | cons a b ih =>
      intro y hy; rcases List.mem_cons.mp hy with e | e
      · rw [e]
        exact ⟨_, List.mem_cons_self, a⟩
      · obtain ⟨x, h1, h2⟩ := ih y e
        exact ⟨x, List.mem_cons_of_mem _ h1, h2⟩
  obtain ⟨x, hx, e1, e2, e3⟩ := key p y hy
  rw [← e1, ← e2]
  exact ⟨nis_is ok kin (z.key x hx).1 rfl, (z.key x hx).2⟩
/-- d[key], d locked -/
theorem ix_kdL (hu : X.A.units + 16 < cLine) : IxR X (fun x y H Q => ∃ (b d : Addr) (o : Obj) (k : NestedKey) (xs : List Rw) (v : V), x = .ref d ∧ y = .ref b ∧ NIs X.K H k (.ref b) ∧ k.depth ≤ 8 ∧ KDL X.prog X.w X.K H o d xs ∧ kGet xs k = some v ∧ Q v H) := by
  intro value slice pins0 s0 σ0 H0 x0 y0 v0 u0 Q0 I0 rx0 ry0 ⟨b, d, o, k, xs, v, e1, e2, hk, hd, z, hv, q0⟩ hs0
  subst e1 e2
  cases rx0
  cases ry0
  obtain ⟨ys, p, m⟩ := z.dict I0.hok I0.kIn
  obtain ⟨pp, hp, rp⟩ := (rows_get k p).2 v hv
  exact tail_any m.typeIs slot_dict_getitem.lookup (wpAny_getItem_heap (kroom hu) ⟨nis_is I0.hok I0.kIn hk rfl, hd⟩ m hp ⟨v, H0, I0.tok _, rp, q0⟩) hs0
theorem frzN {pins : List (Addr × Obj)} {σ : L2.St} {H : Hp} {s : Shared} {d : Addr} {o : Obj} {xs : List Rw} (I : Inv X pins σ H s) (h : H d = some (.frz o (kdO X.prog X.w d xs))) :
    s.heap.get? d = some o ∧ o.ExactDict ∧ ∃ (es : Array DictEntry) (ep : Nat), o.data = .dict es ep ∧ es.size = xs.length ∧ ∀ (i : Nat) (x : Rw), xs[i]? = some x → ∃ en : DictEntry, es[i]? = some en ∧ en.key = .ref x.2.1 := by
  have z : ObjOk X.prog X.w H s.heap d (.frz o (kdO X.prog X.w d xs)) := I.hok d _ h
  obtain ⟨hd, ⟨ys, p, o', es, ep, ho, hx, hdt, he, _⟩, _⟩ := z
  rw [hd] at ho
  cases ho
  have l1 : es.size = ys.length := size_of_entries he
  refine ⟨hd, hx, es, ep, hdt, l1.trans p.length.symm, fun i x e => ?_⟩
  obtain ⟨y, hy, e1, e2, _⟩ := L2.paired_get p e
  refine ⟨entryOfKey (nestedKind X.prog X.w) y, ?_, ?_⟩
  · rw [← Array.getElem?_toList, he, List.getElem?_map, hy]
    rfl
  · rw [e2]
    rfl
def ItN (P : Program) (w : World) (d : Addr) (o : Obj) (xs : List Rw) : It :=
  ⟨fun i H => H d = some (.frz o (kdO P w d xs)) ∧ i < xs.length, fun i H x H' => H' = H ∧ ∃ r, xs[i]? = some r ∧ x = .ref r.2.1, fun i H => H d = some (.frz o (kdO P w d xs)) ∧ xs.length ≤ i⟩
end
section
variable {tg : Expr} {P : Program} {w : World} {K : PySem.W.Frag} {d : Addr} {o : Obj} {es : Array DictEntry} {ep : Nat}
theorem turn_keysN {xs : List Rw} (it : Addr) (hod : o.data = .dict es ep) : Turn P w K tg (ItN P w d o xs) [it] it (fun i h => h.IsKeyIter it d i xs.length ep) where
  mem := List.mem_singleton.mpr rfl
  obj := fun i h st b hb => by
    obtain ⟨oi, e, c, dd⟩ := st
    rw [List.mem_singleton.mp hb]
    exact ⟨oi, e, fun v0 z0 => by rw [dd] at z0; cases z0⟩
  keep := fun i h h2 st k => st.at fun oi e => k it (List.mem_singleton.mpr rfl) oi e
  item := by
    intro X eP ew eK hc i pins s σ H E I hf st hg
    subst eP ew eK
    obtain ⟨hd, hi⟩ := hg
    obtain ⟨f0, f1, f2, f3, f4, f5⟩ := hf it (List.mem_singleton.mpr rfl)
    obtain ⟨hgd, hx, es2, ep2, hdt, hsz, ent⟩ := frzN I hd
    obtain ⟨rfl, rfl⟩ := dict_ep hod hdt; obtain ⟨r, hr⟩ : ∃ r, xs[i]? = some r := ⟨_, List.getElem?_eq_getElem hi⟩
    obtain ⟨en, hen, hkey⟩ := ent i r hr
    refine next_key_item st hgd hdt hsz hen fun h2 st2 sb => ?_
    have I1 : Inv X pins σ H { s with heap := h2 } := I.turned (t' := s.toks) (fun b ob hb e => (sb.2 b hb).trans e) f0 f1 f3 f4 f5
    obtain ⟨oi, e, c, dd⟩ := id st2
    exact ⟨en.key, rfl, go_of (s := { s with heap := h2 }) e c dd (by decide) ⟨.ref r.2.1, H, I1, hkey, ⟨rfl, r, hr, rfl⟩, st2, fun b hb => (hf b hb).1⟩⟩
  done := by
    intro X eP ew eK hc i pins s σ H E I hf st hg
    subst eP ew eK
    obtain ⟨hd, hi⟩ := hg
    obtain ⟨f0, f1, f2, f3, f4, f5⟩ := hf it (List.mem_singleton.mpr rfl)
    obtain ⟨hgd, hx, es2, ep2, hdt, hsz, ent⟩ := frzN I hd
    obtain ⟨rfl, rfl⟩ := dict_ep hod hdt; exact next_key_end (I.ok.hd hc) st hgd hdt hsz hi fun h2 eb => ⟨rfl, I.turned (t' := s.toks) (fun b ob hb e => eb b ob hb e) f0 f1 f3 f4 f5⟩
  self := fun _ _ _ _ _ st h => wpAny_pyIter_keyiter st h
end
section
variable {X : Cx} {tg e : Expr} {td : TE}
def iKeysN (P : Program) (w : World) (td : TE) : TI := fun σ H R => td σ H fun x H1 => ∃ d o xs, x = .ref d ∧ (d == sysModules) = false ∧ H1 d = some (.frz o (kdO P w d xs)) ∧ R (ItN P w d o xs) H1
/-- for k in d: the statement locks d (ps_lock) -/
theorem pi_keysN (he : PE X e td) : PI X tg e (iKeysN X.prog X.w td) := by
  refine ⟨fun pins0 s0 σ0 H0 R0 I0 h0 => thn (he.run pins0 s0 σ0 H0 _ I0 h0) fun u s1 ⟨x, H1, I1, rx, d, o, xs, ex, low, hd, q⟩ => ?_⟩
  subst ex
  obtain rfl : u = Value.ref d := rx; obtain ⟨hgd, hx, es, ep, hdt, hsz, ent⟩ := frzN I1 hd
  refine iter_keys low hgd hx hdt (pi_one (tk := s1.toks) I1 _ (turn_keysN _ hdt) ⟨_, Heap.get?_push_size _ rfl, rfl, ?_⟩ q)
  rw [hsz]; rfl
end
end Ld
namespace K28
open PySem L2 Ld PyProof.Rows
/-! ### the rule for an address -/
def findK (rs : List Rl) (k : Bool × List Str) : Option Rl := rs.find? fun r => decide (r.key = kOf k.1 k.2)
def openFor (rs : List Rl) (ws : List Str) : Nat → Option Rl
  | 0 => findK rs (false, [])
  | n + 1 => (findK rs (false, ws.take (n + 1))).or (openFor rs ws n)
def ruleFor (rs : List Rl) (ws : List Str) : Option Rl := (findK rs (true, ws)).or (openFor rs ws ws.length)
theorem openFor_some {rs : List Rl} {ws : List Str} {r : Rl} {k : Nat} (e : findK rs (false, ws.take k) = some r) : ∀ n, k ≤ n → (∀ j, k < j → j ≤ n → findK rs (false, ws.take j) = none) → openFor rs ws n = some r
  | 0, h, _ => by
    have : k = 0 := by omega
    subst this
    exact e
  | n + 1, h, nn => by
    unfold openFor
    by_cases hk : k = n + 1
    · rw [← hk, e]
      rfl
    · rw [nn (n + 1) (by omega) (Nat.le_refl _), Option.none_or]
      exact openFor_some e n (by omega) fun j h1 h2 => nn j h1 (by omega)
theorem openFor_none {rs : List Rl} {ws : List Str} : ∀ n, (∀ j, j ≤ n → findK rs (false, ws.take j) = none) → openFor rs ws n = none
  | 0, nn => nn 0 (Nat.le_refl _)
  | n + 1, nn => by
    unfold openFor
    rw [nn (n + 1) (Nat.le_refl _), Option.none_or]
    exact openFor_none n fun j h => nn j (by omega)
theorem openFor_mem {rs : List Rl} {ws : List Str} {r : Rl} : ∀ n, openFor rs ws n = some r → r ∈ rs
  | 0, h => List.mem_of_find?_eq_some h
  | n + 1, h => by
    unfold openFor at h
    cases e : findK rs (false, ws.take (n + 1)) with
    | none =>
      rw [e, Option.none_or] at h
      exact openFor_mem n h
    | some t =>
      rw [e] at h
      cases h
      exact List.mem_of_find?_eq_some e
theorem findK_long {rs : List Rl} {k : Bool × List Str} (h : ∀ r ∈ rs, r.pl.length < k.2.length) : findK rs k = none := by
  refine List.find?_eq_none.mpr fun r hr e => ?_
  have e := (key_inj (a := r) (b := ⟨k.1, k.2, .gone⟩) (of_decide_eq_true e)).2
  have := h r hr
  rw [e] at this
  exact absurd this (Nat.lt_irrefl _)
theorem rows_find {K : PySem.W.Frag} {H : Hp} {rows : List Rw} {rs : List Rl} (z : rowsFit K H rows rs) (one : (rs.map Rl.key).Nodup) (k : Bool × List Str) :
    (kGet rows (kOf k.1 k.2) = none ∧ findK rs k = none) ∨ ∃ v r, kGet rows (kOf k.1 k.2) = some v ∧ findK rs k = some r ∧ RuleAt K H v r := by
  cases e : kGet rows (kOf k.1 k.2) with
  | none =>
    refine .inl ⟨rfl, List.find?_eq_none.mpr fun r hr h => ?_⟩
    have h2 := z.2 r hr
    rw [of_decide_eq_true h, e] at h2
    cases h2
  | some v =>
    obtain ⟨r, h1, h2, h3⟩ := z.1 _ _ e
    refine .inr ⟨v, r, rfl, ?_, h3⟩
    cases e2 : findK rs k with
    | none => exact absurd (decide_eq_true h2) (List.find?_eq_none.mp e2 r h1)
    | some t =>
      have m := List.mem_of_find?_eq_some e2
      have kt : t.key = kOf k.1 k.2 := of_decide_eq_true (List.find?_some (p := fun r : Rl => decide (r.key = kOf k.1 k.2)) e2)
      rw [nodup_key one m h1 (key_inj (kt.trans h2.symm))]
section
variable {K : PySem.W.Frag} {H H' : Hp}
def KeyAt (K : PySem.W.Frag) (H : Hp) (v : V) (k : Bool × List Str) : Prop := ∃ a p, v = .ref a ∧ SqT K H a [.str (sortS k.1), .ref p] ∧ SqT K H p (k.2.map V.str)
theorem KeyAt.mono {v : V} {k : Bool × List Str} (z : KeyAt K H v k) (hT : ∀ a xs, SqT K H a xs → SqT K H' a xs) : KeyAt K H' v k := let ⟨a, p, e, h1, h2⟩ := z; ⟨a, p, e, hT _ _ h1, hT _ _ h2⟩
theorem strs_inv : ∀ {xs : List V} {ws : List Str}, DpAll K H xs (ws.map PyData.str) → xs = ws.map V.str
  | _, [], h => by cases h; rfl
  | _, w :: ws, h => by
    cases h with
    | cons a b =>
      cases a
      rw [strs_inv b]
      rfl
theorem wt_inv {v : V} {ws : List Str} (h : Dp K H v (wt ws)) : ∃ p, v = .ref p ∧ SqT K H p (ws.map V.str) := by
  cases h with
  | tup h1 h2 =>
    rw [strs_inv h2] at h1
    exact ⟨_, rfl, h1⟩
theorem dpAll_get : ∀ {xs : List V} {ds : List PyData}, DpAll K H xs ds → xs.length = ds.length ∧ ∀ (i : Nat) (x : V), xs[i]? = some x → ∃ d, ds[i]? = some d ∧ Dp K H x d
  | _, _, .nil => ⟨rfl, fun i x e => by simp at e⟩
  | _, _, .cons a b => by
    obtain ⟨h1, h2⟩ := dpAll_get b
    refine ⟨congrArg (· + 1) h1, fun i x e => ?_⟩
    cases i with
    | zero =>
      simp at e
      subst e
      exact ⟨_, rfl, a⟩
    | succ i => exact h2 i x (by simpa using e)
theorem sqT_off {G G2 : Hp} {D p : Addr} {ks xs : List V} (hD : G D = some (.lst ks)) (fr : ∀ c o, c ≠ D → G c = some o → G2 c = some o) (h : SqT K G p xs) : SqT K G2 p xs := by
  rcases h with (h | ⟨o, h⟩) | h
  · exact .inl (.inl (fr _ _ (ne_of h hD fun e => nomatch e) h))
  · exact .inl (.inr ⟨o, fr _ _ (ne_of h hD fun e => nomatch e) h⟩)
  · exact .inr h
theorem sqL_off {G G2 : Hp} {D p : Addr} {xs : List V} (ne : p ≠ D) (fr : ∀ c o, c ≠ D → G c = some o → G2 c = some o) (h : SqL K G p xs) : SqL K G2 p xs := by
  rcases h with (h | ⟨o, h⟩) | h
  · exact .inl (.inl (fr _ _ ne h))
  · exact .inl (.inr ⟨o, fr _ _ ne h⟩)
  · exact .inr h
end
section
variable {P : Program} {w : World} {K : PySem.W.Frag} {mg : Str → Option Value} {base : Heap} {f : Addr} {fd : FuncData} {CT : Addr}
def OutAt (K : PySem.W.Frag) (H : Hp) (v : V) : Option Rl → Prop
  | none => v = .non
  | some r => RuleAt K H v r
def spFor (P : Program) (w : World) (K : PySem.W.Frag) (CT : Addr) : Sp := fun vs H Q _ => ∃ (a b : Addr) (rs : List Rl) (ws : List Str), vs = [.ref a, .ref b] ∧ TabAt P w K CT H a rs ∧ SqT K H b (ws.map V.str) ∧ ∀ v H', Same H H' → OutAt K H' v (ruleFor rs ws) → Q v H'
theorem scFor : FnScope ["self", "address", "key", "size"] ["self", "address"] (defScope sFor) := ⟨rfl, rfl, rfl, by decide +kernel, rfl, by decide +kernel, by decide +kernel⟩
theorem key_cut {rs : List Rl} (ok : ∀ r ∈ rs, r.pl.length ≤ 4) (b : Bool) (ws : List Str) : findK rs (b, ws.take 5) = findK rs (b, ws) := by
  by_cases h : ws.length ≤ 5
  · rw [List.take_of_length_le h]
  · rw [findK_long (fun r hr => ?_), findK_long (fun r hr => ?_)]
    · have := ok r hr
      show r.pl.length < ws.length
      omega
    · have := ok r hr
      show r.pl.length < (ws.take 5).length
      rw [List.length_take]
      omega
/-- where the search is: the key k is to be looked for, n more beginnings behind it -/
def Seek (rs : List Rl) (ws : List Str) (k : Bool × List Str) (s : Int) : Prop :=
  (k = (true, ws.take 5) ∧ 0 ≤ s ∧ s ≤ ws.length ∧ s ≤ 4 ∧ ∀ j : Nat, s < (j : Int) → j ≤ ws.length → findK rs (false, ws.take j) = none) ∨
  (∃ n : Nat, s = (n : Int) - 1 ∧ n ≤ ws.length ∧ n ≤ 4 ∧ k = (false, ws.take n) ∧ findK rs (true, ws) = none ∧ ∀ j, n < j → j ≤ ws.length → findK rs (false, ws.take j) = none)
theorem Seek.found {rs : List Rl} {ws : List Str} {k : Bool × List Str} {s : Int} {r : Rl} (ok : ∀ r ∈ rs, r.pl.length ≤ 4) (z : Seek rs ws k s) (e : findK rs k = some r) : ruleFor rs ws = some r := by
  unfold ruleFor
  rcases z with ⟨rfl, _⟩ | ⟨n, rfl, h1, _, rfl, h2, h3⟩
  · rw [key_cut ok] at e
    rw [e]
    rfl
  · rw [h2, Option.none_or]
    exact openFor_some e _ h1 h3
theorem Seek.out {rs : List Rl} {ws : List Str} {k : Bool × List Str} {s : Int} (z : Seek rs ws k s) (e : findK rs k = none) (h : s < 0) : ruleFor rs ws = none := by
  rcases z with ⟨rfl, h1, _⟩ | ⟨n, rfl, h1, _, rfl, h2, h3⟩
  · omega
  · have : n = 0 := by omega
    subst this
    unfold ruleFor
    rw [h2, Option.none_or]
    refine openFor_none _ fun j hj => ?_
    by_cases hj0 : j = 0
    · subst hj0
      exact e
    · exact h3 j (by omega) hj
theorem Seek.on {rs : List Rl} {ws : List Str} {k : Bool × List Str} {s : Int} (ok : ∀ r ∈ rs, r.pl.length ≤ 4) (z : Seek rs ws k s) (e : findK rs k = none) (h : 0 ≤ s) : Seek rs ws (false, ws.take s.toNat) (s - 1) := by
  refine .inr ⟨s.toNat, by omega, ?_, ?_, rfl, ?_, fun j h1 h2 => ?_⟩
  · rcases z with ⟨_, _, h2, _⟩ | ⟨n, h1, h2, _⟩ <;> omega
  · rcases z with ⟨_, _, _, h2, _⟩ | ⟨n, h1, _, h2, _⟩ <;> omega
  · rcases z with ⟨rfl, _⟩ | ⟨n, _, _, _, _, h2, _⟩
    · rw [key_cut ok] at e
      exact e
    · exact h2
  · rcases z with ⟨_, _, _, _, h3⟩ | ⟨n, rfl, _, _, rfl, _, h3⟩
    · exact h3 j (by omega) h2
    · by_cases hj : j = n
      · subst hj
        exact e
      · exact h3 j (by omega) h2
theorem ok_for (Fd : Fun K "rule_for" "Table.rule_for" sFor f fd) (T : Tx mg) (C : Tcl K CT) : FnOk P w K mg base CX0 3 f fd ["self", "address"] (spFor P w K CT) := by
  refine Fd.ok scFor (fun vs H Q E h => ?_) (fun cdv A outer s H vs Q E hr h => ?_)
  · obtain ⟨a, b, rs, ws, rfl, _⟩ := h
    rfl
  · obtain ⟨a, b, rs, ws, rfl, hTab, hb, q⟩ := h
    obtain ⟨tp, hpw⟩ := T.pw
    have nd := scFor.nd
    have hu16 : (A.deeper (envOfC "Table.rule_for" (defScope sFor) s.heap.objs.size f cdv)).units + 16 < cLine := Nat.lt_of_le_of_lt (Nat.add_le_add_left (by decide) _) hr.units
    refine ⟨_, pss_cons (ps_set (i := 2) nd rfl (Or.inl rfl) (pe_tup (pa_cons pe_str (pa_cons (pe_callTy call_tuple_of (by rfl) T.tuple (by decide +kernel) (pa_cons (pe_slice (r := rSlW K) sl_tupK (pv 1) po_none (po_some (pe_op op_add (pe_glob (v := .int 4) (by rfl) hpw ⟨_, rfl⟩) pe_int))) pa_nil)) pa_nil))))
      (pss_cons (ps_set (i := 3) nd rfl (Or.inl rfl) (pe_callB (call_min2 rfl) (by rfl) T.min PyProof.Rows.boot_min (pa_cons (pe_callB call_len_seq (by rfl) T.len PySem.boot_len (pa_cons (pv 1) pa_nil)) (pa_cons (pe_fld (pv 0) rfl) pa_nil))))
      (pss_cons (ps_while PassesOwn.never (pt_cmpR (op_notInN hu16) (pv 2) (pe_fld (pv 0) rfl) (by rfl))
        (pss_cons (ps_if (pt_cmpR op_lt (pv 3) pe_int (nomark _)) (pss_one (ps_ret pe_non)) pss_nil)
        (pss_cons (ps_set (i := 2) nd rfl (Or.inl rfl) (pe_tup (pa_cons pe_str (pa_cons (pe_callTy call_tuple_of (by rfl) T.tuple (by decide +kernel) (pa_cons (pe_slice (r := rSlW K) sl_tupK (pv 1) po_none (po_some (pv 3))) pa_nil)) pa_nil))))
        (pss_one (ps_aug (i := 3) nd rfl (Or.inl rfl) pe_int ip_sub)))))
      (pss_one (ps_ret (pe_callTy call_tuple_of (by rfl) T.tuple (by decide +kernel) (pa_cons (pe_callTy call_list_of (by rfl) T.list (by decide +kernel) (pa_cons (pe_ix (ix_kd hu16) (pe_fld (pv 0) rfl) (pv 2) (fun _ _ => rfl)) pa_nil)) pa_nil)))))), ?_⟩
    obtain ⟨dx, t, d, ys, rows, m, h1, h2, h3, h4, h5, h6, m0, m4, hm⟩ := hTab
    have ok4 : ∀ r ∈ rs, r.pl.length ≤ 4 := fun r hr => (h4.ok r hr).len
    refine ⟨_, rfl, _, _, rfl, rfl, _, rfl, b, _, rfl, hb, fun p G1 s1 k1 => ⟨p, _, rfl, .inr ⟨k1, (show 2 ≤ sizeLine by decide), fun kt hkt => ?_⟩⟩⟩
    have s2 := s1.trans (Same.new (o := .tup [.str "exact", .ref p]) hkt)
    have k2 := upd_same (H := G1) (a := kt) (o := .tup [.str "exact", .ref p])
    have p2 := same_T (Same.new (o := .tup [.str "exact", .ref p]) hkt) k1
    generalize upd G1 kt (.tup [.str "exact", .ref p]) = G2 at s2 k2 p2 ⊢
    have hx : Same H G2 := s2
    refine ⟨_, rfl, b, _, rfl, .inr (same_T hx hb), _, rfl, a, CT, dx, _, .int m, rfl, hx _ _ h1, C.cls, C.no3, rfl, _, _, rfl, ?_⟩
    have seek0 : Seek rs ws (true, ws.take 5) (if m < (((ws.map V.str).length : Nat) : Int) then m else (((ws.map V.str).length : Nat) : Int)) := by
      rw [List.length_map]
      refine .inl ⟨rfl, ?_, ?_, ?_, fun j h1 h2 => findK_long fun r hr => ?_⟩
      · split <;> omega
      · split <;> omega
      · split <;> omega
      · have h3 := hm r hr
        show r.pl.length < (ws.take j).length
        rw [List.length_take]
        split at h1 <;> omega
    rw [show ((4 : Int) + 1) = ((5 : Nat) : Int) from rfl, cut_lo] at p2
    generalize (if m < (((ws.map V.str).length : Nat) : Int) then m else (((ws.map V.str).length : Nat) : Int)) = z0 at seek0 ⊢
    have z0p : 0 ≤ z0 := by
      rcases seek0 with ⟨_, h, _⟩ | ⟨n, _, _, _, h, _⟩
      · exact h
      · cases h
    refine ⟨fun m σ G => ∃ (ka : Addr) (k : Bool × List Str) (z : Int), σ = [some (.ref a), some (.ref b), some (.ref ka), some (.int z)] ∧ KeyAt K G (.ref ka) k ∧ Seek rs ws k z ∧ Same H G ∧ (m : Int) = z + 1, ⟨(z0 + 1).toNat, kt, (true, ws.take 5), z0, rfl, ⟨kt, p, rfl, .of k2, p2⟩, seek0, hx, by omega⟩, ?_⟩
    rintro mm σ G ⟨ka, k, z, rfl, ⟨kx, kp, ek, t1, t2⟩, sk, sG, em⟩
    cases ek
    refine ⟨_, rfl, _, rfl, a, CT, dx, _, .ref d, rfl, sG _ _ h1, C.cls, C.no2, rfl, ka, d, kOf k.1 k.2, rows, rfl, rfl, nis_key t1 t2, key_deep _ _, h5.same sG, _, rfl, ?_⟩
    have h6G := h6.mono (H' := G) fun _ _ q => same_T sG q
    rcases rows_find h6G h4.one k with ⟨e1, e2⟩ | ⟨v, r, e1, e2, rv⟩
    · rw [e1]
      refine iteT ⟨_, fun σ' G' h => h, ?_⟩
      refine ⟨_, rfl, z, 0, rfl, rfl, _, rfl, ?_⟩
      by_cases hz : z < 0
      · rw [decide_eq_true hz]
        refine iteT (q _ _ sG ?_)
        rw [sk.out e2 hz]
        rfl
      · rw [decide_eq_false hz]
        refine iteF ⟨_, rfl, _, rfl, _, rfl, b, _, rfl, same_T sG hb, fun p3 G3 s3 k3 => ⟨p3, _, rfl, .inr ⟨k3, (show 2 ≤ sizeLine by decide), fun kt2 hkt2 => ?_⟩⟩⟩
        have s4 := Same.new (o := .tup [.str "open", .ref p3]) hkt2
        refine ⟨_, rfl, _, _, rfl, rfl, mm - 1, by omega, kt2, _, z - 1, rfl, ⟨kt2, p3, rfl, .of upd_same, ?_⟩, sk.on ok4 e2 (by omega), sG.trans (s3.trans s4), by omega⟩
        have e3 : z = ((z.toNat : Nat) : Int) := by omega
        rw [e3, cut_lo] at k3
        exact same_T s4 k3
    · rw [e1]
      obtain ⟨ra, rp, ry, rfl, u1, u2, u3⟩ := rv
      refine iteF ?_
      refine ⟨_, rfl, a, CT, dx, _, .ref d, rfl, sG _ _ h1, C.cls, C.no2, rfl, _, rfl, ka, d, kOf k.1 k.2, rows, _, rfl, rfl, nis_key t1 t2, key_deep _ _, h5.same sG, e1, ra, _, rfl, .inr u1, fun l hl2 => ⟨l, _, rfl, .inl ⟨.of upd_same, fun p2 hp2 => ?_⟩⟩⟩
      have st := (Same.new (o := .lst [.str (sortS r.ex), .ref rp, ry]) hl2).trans (Same.new (o := .tup [.str (sortS r.ex), .ref rp, ry]) hp2)
      refine q _ _ (sG.trans st) ?_
      rw [sk.found ok4 e2]
      exact ⟨p2, rp, ry, rfl, .of upd_same, same_T st u2, AnAt.mono u3 fun _ _ q => same_T st q⟩
end
end K28
namespace K28
open PySem L2 Ld PyProof.Rows
abbrev sBy : Stmt := top 24
abbrev sAns : Stmt := meth 5
/-! ### the answer -/
def ansOf (r : Rl) (ws : List Str) : PyData := if r.ex = true then r.an.d true else match r.an with
  | .gone => .tuple [.str "gone"]
  | .own z => .tuple [.str "section", .str z, wt (ws.drop r.pl.length)]
  | .to t n => .tuple [.str "to", wt (t ++ ws.drop r.pl.length), .int n]
def answerOf (rs : List Rl) (ws : List Str) : PyData := match ruleFor rs ws with
  | none => .tuple [.str "nothing"]
  | some r => ansOf r ws
theorem shaped_an {a : An} (b : Bool) (h : a.Ok) : SeqAt.shaped (a.d b) = true := by
  unfold SeqAt.shaped
  rw [lay_an b h, decide_eq_true (Nat.le_trans (deep_an a b) (by decide))]
  rfl
theorem shaped_gone : SeqAt.shaped (.tuple [.str "gone"]) = true := by decide +kernel
theorem for_mem {rs : List Rl} {ws : List Str} {r : Rl} (h : ruleFor rs ws = some r) : r ∈ rs := by
  unfold ruleFor at h
  cases e : findK rs (true, ws) with
  | none =>
    rw [e, Option.none_or] at h
    exact openFor_mem _ h
  | some t =>
    rw [e] at h
    cases h
    exact List.mem_of_find?_eq_some e
theorem AnAt.seq {K : PySem.W.Frag} {H : Hp} {v : V} {b : Bool} {a : An} (z : AnAt K H v b a) : ∃ c xs ds, v = .ref c ∧ SqT K H c xs ∧ DpAll K H xs ds ∧ a.d b = .tuple ds := by
  have h := z.dp
  cases a with
  | gone => cases h with | tup h1 h2 => exact ⟨_, _, _, rfl, h1, h2, rfl⟩
  | own y => cases h with | tup h1 h2 => exact ⟨_, _, _, rfl, h1, h2, rfl⟩
  | to ws n => cases h with | tup h1 h2 => exact ⟨_, _, _, rfl, h1, h2, rfl⟩
theorem dpAll_same {K : PySem.W.Frag} {H H' : Hp} {vs : List V} {ds : List PyData} (s : Same H H') (h : DpAll K H vs ds) : DpAll K H' vs ds := dpAll_mono (fun _ _ q => s.seq q) (fun _ _ q => same_T s q) ds vs h
section
variable {P : Program} {w : World} {K : PySem.W.Frag} {mg : Str → Option Value} {base : Heap} {f : Addr} {fd : FuncData} {CT : Addr}
def spBy (K : PySem.W.Frag) : Sp := fun vs H Q _ => ∃ (v : V) (b : Addr) (r : Rl) (ws : List Str), vs = [v, .ref b] ∧ RuleAt K H v r ∧ r.Ok ∧ SqT K H b (ws.map V.str) ∧ ws.length ≤ 10000 ∧ ∀ y H', Same H H' → Dp K H' y (ansOf r ws) → Q y H'
theorem scBy : FnScope ["rule", "address", "sort", "place", "answer", "rest"] ["rule", "address"] (defScope sBy) := ⟨rfl, rfl, rfl, by decide +kernel, rfl, by decide +kernel, by decide +kernel⟩
theorem ok_by (Fd : Fun K "_answer_by" "_answer_by" sBy f fd) (T : Tx mg) (DR : Df P w K mg base 1 "rest_of" ["address", "beginning"] (spRest K)) : FnOk P w K mg base CX0 2 f fd ["rule", "address"] (spBy K) := by
  refine Fd.ok scBy (fun vs H Q E h => ?_) (fun cdv A outer s H vs Q E hr h => ?_)
  · obtain ⟨v, b, r, ws, rfl, _⟩ := h
    rfl
  · obtain ⟨v, b, r, ws, rfl, ⟨ra, rp, ry, rfl, t1, t2, t3⟩, hok, hb, hlw, q⟩ := h
    have nd := scBy.nd
    refine ⟨_, pss_cons (ps_asg (pv 0) (pg_tup rfl (pgs_cons (pg_name (i := 2) nd rfl (Or.inl rfl)) (pgs_cons (pg_name (i := 3) nd rfl (Or.inl rfl)) (pgs_cons (pg_name (i := 4) nd rfl (Or.inl rfl)) pgs_nil)))))
      (pss_cons (ps_if (PW.pt (pw_or (pt_cmpR op_eq (pv 2) pe_str (nomark _)) (pw_or1 (pt_cmpR (op_eqD hr.units) (pv 4) (pe_tup (pa_cons pe_str pa_nil)) (nomark _)))))
        (pss_one (ps_ret (pe_callTy call_tuple_of (by rfl) T.tuple (by decide +kernel) (pa_cons (pe_callTy call_list_of (by rfl) T.list (by decide +kernel) (pa_cons (pv 4) pa_nil)) pa_nil)))) pss_nil)
      (pss_cons (ps_set (i := 5) nd rfl (Or.inl rfl) (pe_df DR hr (pa_cons (pv 1) (pa_cons (pv 3) pa_nil))))
      (pss_cons (ps_if (pt_cmpR op_eq (pe_ix ix_tup (pv 4) pe_int (fun _ _ => rfl)) pe_str (nomark _))
        (pss_one (ps_ret (pe_tup (pa_cons pe_str (pa_cons (pe_ix ix_tup (pv 4) pe_int (fun _ _ => rfl)) (pa_cons (pv 5) pa_nil)))))) pss_nil)
      (pss_one (ps_ret (pe_tup (pa_cons pe_str (pa_cons (pe_op op_catW (pe_ix ix_tup (pv 4) pe_int (fun _ _ => rfl)) (pv 5)) (pa_cons (pe_ix ix_tup (pv 4) pe_int (fun _ _ => rfl)) pa_nil))))))))), ?_⟩
    refine ⟨_, rfl, ra, _, rfl, t1, rfl, _, _, rfl, _, _, rfl, _, _, rfl, ?_⟩
    refine ⟨rfl, ?_⟩
    obtain ⟨ex, pl, an⟩ := r
    obtain ⟨c, as, ds, rfl, u1, u2, ud⟩ := AnAt.seq t3
    have copy : ∀ (G : Hp), Same H G → (∀ y H', Same H H' → Dp K H' y (.tuple ds) → Q y H') → ∀ l, G l = none → ∀ p, (upd G l (.lst as)) p = none → Q (.ref p) (upd (upd G l (.lst as)) p (.tup as)) := fun G sG qq l hl p hp =>
      have st := (Same.new (o := .lst as) hl).trans (Same.new (o := .tup as) hp)
      qq _ _ (sG.trans st) (.tup (.of upd_same) (dpAll_same (sG.trans st) u2))
    refine ⟨_, rfl, rfl, _, rfl, ?_⟩
    cases ex with
    | true =>
      rw [show decide (V.str (sortS true) = V.str "exact") = true from decide_eq_true rfl]
      have q2 : ∀ y H', Same H H' → Dp K H' y (.tuple ds) → Q y H' := fun y H' s d => q y H' s (by
        have e : ansOf ⟨true, pl, an⟩ ws = an.d true := rfl
        rw [e, ud]
        exact d)
      exact iteT ⟨_, rfl, c, as, rfl, .inr u1, fun l hl => ⟨l, _, rfl, .inl ⟨.of upd_same, fun p hp => copy H (Same.refl H) q2 l hl p hp⟩⟩⟩
    | false =>
      rw [show decide (V.str (sortS false) = V.str "exact") = false from decide_eq_false fun e => open_exact (V.str.inj e)]
      refine iteF ⟨_, rfl, (show 1 ≤ sizeLine by decide), fun t ht => ?_⟩
      have s1 := Same.new (o := .tup [.str "gone"]) ht
      refine ⟨an.d false, .tuple [.str "gone"], AnAt.dp (AnAt.mono t3 fun _ _ q => same_T s1 q), .tup (.of upd_same) (.cons (.str _) .nil), shaped_an false hok.an, shaped_gone, _, rfl, ?_⟩
      rw [show PyData.eqv (an.d false) (.tuple [.str "gone"]) = decide (an = .gone) from eqv_an false an .gone]
      have b1 := same_T s1 hb
      have p1 := same_T s1 t2
      have c1 := same_T s1 u1
      generalize upd H t (.tup [.str "gone"]) = G1 at s1 b1 p1 c1 ⊢
      cases an with
      | gone =>
        have q2 : ∀ y H', Same H H' → Dp K H' y (.tuple ds) → Q y H' := fun y H' s d => q y H' s (by
          have e : ansOf ⟨false, pl, .gone⟩ ws = An.d false .gone := rfl
          rw [e, ud]
          exact d)
        exact iteT ⟨_, rfl, c, as, rfl, .inr c1, fun l hl => ⟨l, _, rfl, .inl ⟨.of upd_same, fun p hp => copy G1 s1 q2 l hl p hp⟩⟩⟩
      | own z =>
        obtain ⟨c', ec, v1⟩ := t3
        cases ec
        rw [decide_eq_false (by intro e; cases e)]
        have d1 := same_T s1 v1
        refine iteF ⟨_, rfl, _, rfl, b, rp, ws, pl, rfl, b1, p1, fun rr G2 s2 r2 => ?_⟩
        have d2 := same_T s2 d1
        refine ⟨_, rfl, c, _, _, _, rfl, rfl, d2, at0, rfl, _, rfl, ?_⟩
        rw [show decide (V.str (ownS false) = V.str "section") = true from decide_eq_true rfl]
        refine iteT ⟨_, rfl, c, _, _, _, rfl, rfl, d2, at1, _, rfl, (show 3 ≤ sizeLine by decide), fun u hu => ?_⟩
        have s3 := Same.new (o := .tup [.str "section", .str z, .ref rr]) hu
        exact q _ _ (s1.trans (s2.trans s3)) (.tup (.of upd_same) (.cons (.str _) (.cons (.str _) (.cons (dp_ws (same_T s3 r2)) .nil))))
      | to tg n =>
        obtain ⟨c', cw, ec, v1, v2⟩ := t3
        cases ec
        rw [decide_eq_false (by intro e; cases e)]
        have d1 := same_T s1 v1
        refine iteF ⟨_, rfl, _, rfl, b, rp, ws, pl, rfl, b1, p1, fun rr G2 s2 r2 => ?_⟩
        have d2 := same_T s2 d1
        refine ⟨_, rfl, c, _, _, _, rfl, rfl, d2, at0, rfl, _, rfl, ?_⟩
        rw [show decide (V.str "to" = V.str "section") = false from decide_eq_false fun e => absurd (V.str.inj e) (by decide +kernel)]
        obtain ⟨lt, _⟩ := hok.an
        refine iteF ⟨_, rfl, c, _, _, _, rfl, rfl, d2, at1, _, rfl, cw, rr, _, _, rfl, rfl, same_T (s1.trans s2) v2, r2, ?_, fun x G3 s3 x3 => ?_⟩
        · rw [List.length_map, List.length_map, List.length_drop]
          exact Nat.le_trans (show tg.length + (ws.length - pl.length) ≤ 20000 by omega) (by decide)
        · refine ⟨_, rfl, c, _, _, _, rfl, rfl, same_T s3 d2, at2, (show 3 ≤ sizeLine by decide), fun u hu => ?_⟩
          rw [← List.map_append] at x3
          have s4 := Same.new (o := .tup [.str "to", .ref x, .int n]) hu
          exact q _ _ (s1.trans (s2.trans (s3.trans s4))) (.tup (.of upd_same) (.cons (.str _) (.cons (dp_ws (same_T s4 x3)) (.cons (.int _) .nil))))
def spAns (P : Program) (w : World) (K : PySem.W.Frag) (CT : Addr) : Sp := fun vs H Q _ => ∃ (a b : Addr) (rs : List Rl) (ws : List Str), vs = [.ref a, .ref b] ∧ TabAt P w K CT H a rs ∧ SqT K H b (ws.map V.str) ∧ ws.length ≤ 10000 ∧ ∀ y H', Same H H' → Dp K H' y (answerOf rs ws) → Q y H'
theorem scAns : FnScope ["self", "address", "rule"] ["self", "address"] (defScope sAns) := ⟨rfl, rfl, rfl, by decide +kernel, rfl, by decide +kernel, by decide +kernel⟩
theorem ok_ans {fF : Addr} {fdF : FuncData} (Fd : Fun K "answer" "Table.answer" sAns f fd) (T : Tx mg) (C : Tcl K CT) (M : Meth K CT "rule_for" fF) (FF : FnOk P w K mg base CX0 3 fF fdF ["self", "address"] (spFor P w K CT)) (bF : Binds K fdF ["self", "address"] []) (DB : Df P w K mg base 2 "_answer_by" ["rule", "address"] (spBy K)) :
    FnOk P w K mg base CX0 4 f fd ["self", "address"] (spAns P w K CT) := by
  refine Fd.ok scAns (fun vs H Q E h => ?_) (fun cdv A outer s H vs Q E hr h => ?_)
  · obtain ⟨a, b, rs, ws, rfl, _⟩ := h
    rfl
  · obtain ⟨a, b, rs, ws, rfl, hTab, hb, hlw, q⟩ := h
    have nd := scAns.nd
    refine ⟨_, pss_cons (ps_set (i := 2) nd rfl (Or.inl rfl) (pe_meth (E := E0) (pv 0) C.cls M FF (hr.mono (by decide)) bF .nil (fun _ _ _ _ _ _ _ z => z) (pa_cons (pv 1) pa_nil)))
      (pss_cons (ps_if (pt_cmp (pc_isN (pv 2))) (pss_one (ps_ret (pe_callTy call_tuple_of (by rfl) T.tuple (by decide +kernel) (pa_cons (pe_lstN (pa_cons pe_str pa_nil)) pa_nil)))) pss_nil)
      (pss_one (ps_ret (pe_df DB hr (pa_cons (pv 2) (pa_cons (pv 1) pa_nil)))))), ?_⟩
    obtain ⟨dx, t, d, xs, rows, mx, h1, _, _, h4, _⟩ := id hTab
    refine ⟨_, rfl, a, dx, _, rfl, h1, (by first | rfl | (simp only [List.lookup]; rfl) | (simp only [List.lookup]; decide +kernel)), _, rfl, a, b, rs, ws, rfl, hTab, hb, fun v G s1 out => ?_⟩
    cases e : ruleFor rs ws with
    | none =>
      rw [e] at out
      have ev : v = .non := out
      subst ev
      refine ⟨_, rfl, _, rfl, iteT ⟨(show 1 ≤ sizeLine by decide), fun l hl _ => ⟨l, _, rfl, .inl ⟨.of upd_same, fun p hp => ?_⟩⟩⟩⟩
      have st := (Same.new (o := .lst [.str "nothing"]) hl).trans (Same.new (o := .tup [.str "nothing"]) hp)
      refine q _ _ (s1.trans st) ?_
      unfold answerOf
      rw [e]
      exact .tup (.of upd_same) (.cons (.str _) .nil)
    | some r =>
      rw [e] at out
      have hr2 : RuleAt K G v r := out
      have nv : ¬ v = .non := fun z => by
        obtain ⟨ra, _, _, ev, _⟩ := hr2
        rw [ev] at z
        cases z
      refine ⟨_, rfl, _, rfl, ?_⟩
      rw [decide_eq_false nv]
      refine iteF ⟨_, rfl, _, rfl, v, b, r, ws, rfl, hr2, h4.ok r (for_mem e), same_T s1 hb, hlw, fun y G2 s2 dy => ?_⟩
      refine q _ _ (s1.trans s2) ?_
      unfold answerOf
      rw [e]
      exact dy
end
end K28
/-! list(d) of a dict whose keys are tuples of any depth: its keys, as they were put. -/
namespace Ld
open PySem PySem.W L2 PyProof.Rows
section
variable {X : Cx}
theorem rows_keys : ∀ {xs : List Rw} {ys : List (NestedKey × Addr × Value)}, Paired KR xs ys → Vals (xs.map fun x => V.ref x.2.1) (ys.map fun y => Value.ref y.2.1)
  | _, _, .nil => .nil
  | _, _, .cons a b => .cons (congrArg Value.ref a.2.1.symm) (rows_keys b)
def rListN (P : Program) (w : World) (K : PySem.W.Frag) : List V → Hp → VK → Prop := fun xs H Q => ∃ d rs, xs = [.ref d] ∧ KD P w K H d rs ∧ ∀ l, H l = none → l ≠ sysModules → Q (.ref l) (upd H l (.lst (rs.map fun x => V.ref x.2.1)))
theorem call_listN (hc : X.calm = true) : CallR X (.type "list") (rListN X.prog X.w X.K) := by
  intro pins s σ H xs us Q I r ⟨d, rs, e, z, q⟩
  subst e
  obtain ⟨u0, rfl, rx⟩ := vals1 r
  cases rx
  obtain ⟨⟨ys, pr, ob, es, ep, ho, hx, hdt, he, hn⟩, _⟩ := (show ObjOk X.prog X.w H s.heap d (kdO X.prog X.w d rs) from I.hok d _ z.at_)
  have raw : s.heap.DictRaw d es ep := ⟨ob, ho, hx, hdt⟩
  have l1 : es.size = ys.length := size_of_entries he
  have l2 := pr.length
  have few := z.few
  refine PySem.W.kdl_call (PySem.KdlSrc.rawDict (d := d) (es := es) (ep := ep) z.low) (I.ok.hd hc) raw (Nat.le_trans (show es.size ≤ 1000 by omega) (by decide)) fun h' tk acc c kp ea it => ?_
  have eq : acc.toList = ys.map fun y => Value.ref y.2.1 := by
    have hl : acc.toList.length = ys.length := by rw [Array.length_toList, it.1]; exact l1
    refine List.ext_getElem (by rw [hl, List.length_map]) fun j h1 h2 => ?_
    obtain ⟨hi, hv⟩ := it.2 j acc.toList[j] (by rw [← Array.getElem?_toList]; exact List.getElem?_eq_getElem h1)
    rw [hv, List.getElem_map]
    have hj : j < ys.length := by omega
    have qe : es.toList[j]? = some es[j] := by simp [hi]
    rw [he, List.getElem?_map, List.getElem?_eq_getElem hj] at qe
    have e2 : entryOfKey (nestedKind X.prog X.w) ys[j] = es[j] := Option.some.inj qe
    rw [← e2]
    rfl
  have rv : Vals (rs.map fun x => V.ref x.2.1) acc.toList := by
    rw [eq]
    exact rows_keys pr
  refine ⟨.ref s.heap.objs.size, _, I.laid (t' := tk) (a := s.heap.objs.size) (o := .lst (rs.map fun x => V.ref x.2.1)) kp (Nat.le_refl _) ?_, rfl, q _ (I.hok.fresh (Nat.le_refl _)) (Nat.ne_of_gt I.big)⟩
  exact ⟨Nat.le_trans (show (rs.map fun x => V.ref x.2.1).length ≤ 1000 by rw [List.length_map]; exact few) (by decide), acc.toList, c, rv, by rw [Array.toArray_toList]; exact ea⟩
theorem call_reprD (hG : X.A.guards = some []) (hu : X.A.units + 64 < cLine) : CallR X (.builtin "repr") (fun xs H Q => ∃ v d, xs = [v] ∧ Dp X.K H v d ∧ d.hasDict = false ∧ Small d ∧ Q (.str d.shown) H) := by
  intro pins s σ H xs us Q I r h
  obtain ⟨v, d, rfl, hR, hnd, ⟨h1, h2, h3⟩, q⟩ := h
  obtain ⟨u, rfl, ru⟩ := vals1 r
  obtain ⟨as, rd⟩ := Dp.reads I d v u hR ru
  have hs : d.hasDict = true → ¬ sysModules ∈ as := fun z => by
    rw [hnd] at z
    cases z
  have fin : ∀ h' t tk, (∀ b o, s.heap.get? b = some o → h'.get? b = some o) → EP X pins σ Q (.str d.shown t) { s with heap := h', toks := tk } := fun h' t tk kp =>
    ⟨.str d.shown, H, I.kept kp, ⟨t, rfl⟩, q⟩
  cases v with
  | ref a =>
    cases ru
    exact repr_of_reads' rd h1 hs hG (by omega) (fun _ _ e => e) fin h3
  | non =>
    cases ru
    cases rd
    simp only [PyData.shown] at fin
    exact P.repr_of_none (fin s.heap _ _ fun _ _ e => e)
  | bl b =>
    cases ru
    cases rd
    simp only [PyData.shown] at fin
    exact P.repr_of_bool (fin s.heap _ _ fun _ _ e => e)
  | int i =>
    obtain ⟨t, rfl⟩ := ru
    cases rd
    simp only [PyData.shown] at fin
    exact P.repr_of_int (by simpa [PyData.showable] using h1) (fin s.heap _ _ fun _ _ e => e)
  | str x =>
    obtain ⟨t, rfl⟩ := ru
    cases rd
    simp only [PyData.shown] at fin h3
    exact P.repr_of_str (fin s.heap _ _ fun _ _ e => e) h3
  | byt b =>
    obtain ⟨t, rfl⟩ := ru
    cases rd
  | flt b =>
    obtain ⟨t, rfl⟩ := ru
    cases rd
  | ty n =>
    cases ru
    cases rd
end
end Ld
namespace K28
open PySem L2 Ld PyProof.Rows
def kA (ws : List Str) : NestedKey := .tup (ws.map .text)
theorem nis_ws {K : PySem.W.Frag} {H : Hp} {p : Addr} {ws : List Str} (h : SqT K H p (ws.map V.str)) : NIs K H (kA ws) (.ref p) := .tup h (nall_strs ws)
theorem kA_deep (ws : List Str) : (kA ws).depth ≤ 8 := by
  have h : ∀ ws : List Str, NestedKey.depthAll (ws.map NestedKey.text) = 0 := fun ws => by
    induction ws with
    | nil => rfl
    | cons w ws ih => simp [NestedKey.depthAll, NestedKey.depth, ih]
  simp only [kA, NestedKey.depth, h]
  omega
theorem kA_inj {ws us : List Str} (h : kA ws = kA us) : ws = us := by
  unfold kA at h
  simp only [NestedKey.tup.injEq] at h
  induction ws generalizing us with
  | nil => cases us with
    | nil => rfl
    | cons _ _ => simp at h
  | cons w ws ih => cases us with
    | nil => simp at h
    | cons u us =>
      simp only [List.map_cons, List.cons.injEq, NestedKey.text.injEq] at h
      rw [h.1, ih h.2]
def begsOf (ws : List Str) : List (List Str) := (List.range (ws.length + 1)).map ws.take
theorem pe_disp1NK {X : Cx} {P : Program} {w : World} {K : PySem.W.Frag} {pos : Pos} {ke : Option Expr} {ve : Expr} {trs : List (TE × TE)} (hu : X.A.units + 16 < cLine) (h : PPs X pos [ke] [ve] trs) (hall : [ke].all (·.isSome) = true) (hP : X.prog = P := by rfl) (hw : X.w = w := by rfl) (hK : X.K = K := by rfl) : PE X (.Dict [ke] [ve] pos) (tDisp1N P w K trs) := by
  subst hP hw hK
  exact pe_disp1N hu h hall
theorem op_notInNK {X : Cx} {P : Program} {w : World} {K : PySem.W.Frag} (hu : X.A.units + 16 < cLine) (hP : X.prog = P := by rfl) (hw : X.w = w := by rfl) (hK : X.K = K := by rfl) : OpR X (compareOp .NotIn) (rNotInN P w K) := by
  subst hP hw hK
  exact op_notInN hu
theorem pset_kdK {X : Cx} {P : Program} {w : World} {K : PySem.W.Frag} (hu : X.A.units + 16 < cLine) (hP : X.prog = P := by rfl) (hw : X.w = w := by rfl) (hK : X.K = K := by rfl) : PSet X (putN P w K) := by
  subst hP hw hK
  exact pset_kd hu
theorem pair_get {α β : Type} {F : α → β → Prop} : ∀ {xs : List α} {l : List β}, Paired F xs l → ∀ {i : Nat} {x : α}, xs[i]? = some x → ∃ k, l[i]? = some k ∧ F x k
  | _, _, .nil, i, x, h => by simp at h
  | _, _, .cons a b, 0, x, h => by
    simp at h
    subst h
    exact ⟨_, rfl, a⟩
  | _, _, .cons a b, i + 1, x, h => pair_get b (by simpa using h)
theorem begD_at (ws : List Str) {n j : Nat} (h : j < n) : (begD ws n)[j]? = some (wt (ws.take j)) := by
  unfold begD
  rw [List.getElem?_map, List.getElem?_range h]
  rfl
theorem begD_len (ws : List Str) (n : Nat) : (begD ws n).length = n := by
  unfold begD
  simp
theorem take_last {ws : List Str} {j : Nat} (h : j < ws.length) : ws.take (j + 1) = ws.take j ++ [ws[j]] := by
  rw [List.take_add_one, List.getElem?_eq_getElem h]
  rfl
theorem cut_last (us : List Str) (x : Str) : cutV ((us ++ [x]).map V.str) none (some (-1)) = us.map V.str := by
  unfold cutV
  have e : HT.sIx ((us ++ [x]).map V.str).length ((us ++ [x]).map V.str).length (some (-1)) = us.length := by
    show (if (-1 : Int) < 0 then ((-1 : Int) + ((((us ++ [x]).map V.str).length : Nat) : Int)).toNat else min (-1 : Int).toNat ((us ++ [x]).map V.str).length) = us.length
    rw [if_pos (by decide), List.length_map, List.length_append, List.length_singleton]
    omega
  rw [e, HT.sIx_none, List.drop_zero, Nat.sub_zero, List.map_append]
  have : us.length = (us.map V.str).length := by simp
  rw [this, List.take_left']
  rfl
theorem begs_at (ws : List Str) {j : Nat} (h : j ≤ ws.length) : (begsOf ws)[j]? = some (ws.take j) := by
  unfold begsOf
  rw [List.getElem?_map, List.getElem?_range (by omega)]
  rfl
def Places (K : PySem.W.Frag) (H : Hp) (xs : List V) (pls : List (List Str)) : Prop := Paired (fun v ws => ∃ p, v = .ref p ∧ SqT K H p (ws.map V.str)) xs pls
def leA (a b : List Str) : Bool := PySem.W.dataLe false id (keyD a) (keyD b)
def sortA (ss : List (List Str)) : List (List Str) := ss.mergeSort leA
def LowW (ws : List Str) : Prop := ∀ z ∈ ws, ∀ c ∈ z.cps.toList, c < 128
theorem lay_low {ws : List Str} (h : LowW ws) : (wt ws).canLay0 = true := by
  unfold wt
  simp only [PyData.canLay0]
  exact lay_words h
theorem shaped_ansL {rs : List Rl} {ws : List Str} (g : ∀ r ∈ rs, r.Ok) (h : LowW ws) : SeqAt.shaped (answerOf rs ws) = true := by
  have sx : PyData.strOk "nothing" = true := ok_str (by decide +kernel)
  have sy : PyData.strOk "section" = true := ok_str (asc_own false)
  have dw := depth_words
  have both : (answerOf rs ws).canLay0 = true ∧ (answerOf rs ws).depth ≤ 2 := by
    unfold answerOf
    cases hr : ruleFor rs ws with
    | none => exact ⟨by simp [PyData.canLay0, PyData.canLayAll0, sx], by simp [PyData.depth, PyData.depthAll]⟩
    | some r =>
      have ok := g r (for_mem hr)
      obtain ⟨e, pl, an⟩ := r
      cases e with
      | true => exact ⟨lay_an true ok.an, deep_an an true⟩
      | false =>
        cases an with
        | gone => exact ⟨by simp [ansOf, PyData.canLay0, PyData.canLayAll0, ok_str asc_gone], by simp [ansOf, PyData.depth, PyData.depthAll]⟩
        | own z => exact ⟨by simp [ansOf, PyData.canLay0, PyData.canLayAll0, sy, ok_str (Wd.asc ok.an), lay_low (fun y hy => h y (List.mem_of_mem_drop hy))], by simp [ansOf, wt, PyData.depth, PyData.depthAll, ← List.map_drop, dw]⟩
        | to tg n =>
          have hw : LowW (tg ++ ws.drop pl.length) := fun y hy => by
            rcases List.mem_append.mp hy with hy | hy
            · exact (ok.an.2.1 y hy).low
            · exact h y (List.mem_of_mem_drop hy)
          refine ⟨by simp [ansOf, PyData.canLay0, PyData.canLayAll0, ok_str asc_to, lay_low hw], by
            show (PyData.tuple [.str "to", wt (tg ++ ws.drop pl.length), .int n]).depth ≤ 2
            simp only [wt, PyData.depth, PyData.depthAll, dw]
            decide⟩
  unfold SeqAt.shaped
  rw [decide_eq_true (Nat.le_trans both.2 (by decide)), both.1]
  rfl
theorem sorted_pl {K : PySem.W.Frag} {H : Hp} {xs : List V} {ss : List (List Str)} (z : Places K H xs ss) : Places K H ((((xs.zip ss).map fun q => (q.1, keyD q.2)).mergeSort (PySem.W.dataLe false Prod.snd)).map Prod.fst) (sortA ss) := by
  have e1 := List.map_mergeSort (r := fun a b : V × List Str => leA a.2 b.2) (s := PySem.W.dataLe false Prod.snd) (f := fun q => (q.1, keyD q.2)) (l := xs.zip ss) (fun a _ b _ => rfl)
  have e2 := List.map_mergeSort (r := fun a b : V × List Str => leA a.2 b.2) (s := leA) (f := fun q => q.2) (l := xs.zip ss) (fun a _ b _ => rfl)
  rw [(zip_fst z.length).2] at e2
  unfold sortA
  rw [← e1, ← e2, List.map_map]
  have all : ∀ {xs : List V} {ss : List (List Str)}, Places K H xs ss → ∀ q ∈ xs.zip ss, ∃ p, q.1 = V.ref p ∧ SqT K H p (q.2.map V.str) := fun {xs ss} z => by
    induction z with
    | nil => exact fun q h => by cases h
    | cons a b ih =>
      intro q h
      rw [List.zip_cons_cons] at h
      rcases List.mem_cons.mp h with rfl | h
      · exact a
      · exact ih q h
  have mk : ∀ {l : List (V × List Str)}, (∀ q ∈ l, ∃ p, q.1 = V.ref p ∧ SqT K H p (q.2.map V.str)) → Places K H (l.map (·.1)) (l.map (·.2)) := fun {l} => by
    induction l with
    | nil => exact fun _ => .nil
    | cons q l ih => exact fun h => .cons (h q List.mem_cons_self) (ih fun p hp => h p (List.mem_cons_of_mem _ hp))
  exact mk fun q hq => all z q ((List.mergeSort_perm _ _).mem_iff.mp hq)
/-! ### joints -/
def addJ (js : List (List Str)) (ws : List Str) : List (List Str) := if ws ∈ js then js else js ++ [ws]
def ruleJ (js : List (List Str)) (r : Rl) : List (List Str) := if r.ex = true then addJ ((begsOf r.pl.dropLast).foldl addJ js) r.pl else (begsOf r.pl.dropLast).foldl addJ js
def tabJ (js : List (List Str)) (rs : List Rl) : List (List Str) := rs.foldl ruleJ js
def jointsOf (rss : List (List Rl)) : List (List Str) := rss.foldl tabJ [[]]
section
variable {P : Program} {w : World} {K : PySem.W.Frag} {mg : Str → Option Value} {base : Heap} {f : Addr} {fd : FuncData} {CT : Addr}
def KeyJ (x : Rw) (ws : List Str) : Prop := x.1 = kA ws
def JD (P : Program) (w : World) (K : PySem.W.Frag) (H : Hp) (D : Addr) (rows : List Rw) (js : List (List Str)) : Prop := KD P w K H D rows ∧ Paired KeyJ rows js
theorem JD.same {H H' : Hp} {D : Addr} {rows : List Rw} {js : List (List Str)} (z : JD P w K H D rows js) (s : Same H H') : JD P w K H' D rows js := ⟨z.1.same s, z.2⟩
theorem keyJ_get (ws : List Str) {rows : List Rw} {js : List (List Str)} (z : Paired KeyJ rows js) : (kGet rows (kA ws)).isSome = decide (ws ∈ js) := by
  induction z with
  | nil => rfl
  | @cons x e rows es a b ih =>
    rw [kGet_cons]
    have ax : x.1 = kA e := a
    by_cases h : ws = e
    · rw [if_pos (by rw [ax, h])]
      simp [h]
    · rw [if_neg (fun q => h (kA_inj (ax.symm.trans q)).symm), ih]
      simp [h]
theorem keyJ_set (k : NestedKey) (v : V) : ∀ {rows : List Rw} {js : List (List Str)}, Paired KeyJ rows js → Paired KeyJ (rows.map (kSet k v)) js
  | _, _, .nil => .nil
  | _, _, .cons a b => .cons (by
      unfold kSet
      split
      · exact a
      · exact a) (keyJ_set k v b)
theorem jd_put {H : Hp} {D b : Addr} {rows : List Rw} {js : List (List Str)} {ws : List Str} {v : V} (z : JD P w K H D rows js) (few : rows.length ≤ 900) (hk : NIs K H (kA ws) (.ref b)) :
    JD P w K (upd H D (kdO P w D (kPut rows (kA ws) b v))) D (kPut rows (kA ws) b v) (addJ js ws) := by
  obtain ⟨kd, pr⟩ := z
  have hT : ∀ c ys, SqT K H c ys → SqT K (upd H D (kdO P w D (kPut rows (kA ws) b v))) c ys := fun c ys q => sqT_kd kd.at_ q
  have gt := keyJ_get ws pr
  have ln := kPut_len rows (kA ws) b v
  refine ⟨⟨upd_same, kd.low, by omega, fun x hx => ?_⟩, ?_⟩
  · unfold kPut at hx
    split at hx
    · obtain ⟨y, hy, rfl⟩ := List.mem_map.mp hx
      have e : (kSet (kA ws) v y).1 = y.1 ∧ (kSet (kA ws) v y).2.1 = y.2.1 := by
        unfold kSet
        split <;> exact ⟨rfl, rfl⟩
      rw [e.1, e.2]
      exact ⟨nis_mono hT (kd.key y hy).1, (kd.key y hy).2⟩
    · rcases List.mem_append.mp hx with hx | hx
      · exact ⟨nis_mono hT (kd.key x hx).1, (kd.key x hx).2⟩
      · rw [List.mem_singleton.mp hx]
        exact ⟨nis_mono hT hk, kA_deep ws⟩
  · unfold kPut addJ
    rw [gt]
    by_cases h : ws ∈ js
    · rw [if_pos (by simpa using h), if_pos h]
      exact keyJ_set _ _ pr
    · rw [if_neg (by simpa using h), if_neg h]
      exact pr.snoc (a := (kA ws, b, v)) (b := ws) rfl
theorem nis_inv {H : Hp} {b : Addr} {ws : List Str} (h : NIs K H (kA ws) (.ref b)) : SqT K H b (ws.map V.str) := by
  unfold kA at h
  generalize e : NestedKey.tup (ws.map NestedKey.text) = k at h
  cases h with
  | tup h1 h2 =>
    injection e with e
    have : ∀ {ws : List Str} {ks : List NestedKey} {xs : List V}, NAll K H ks xs → ws.map NestedKey.text = ks → xs = ws.map V.str := fun {ws ks xs} z => by
      intro e
      induction ws generalizing ks xs with
      | nil => subst e; cases z; rfl
      | cons w ws ih =>
        subst e
        cases z with
        | cons a b =>
          cases a
          rw [ih b rfl]
          rfl
    rw [this h2 e] at h1
    exact h1
theorem jd_places {H : Hp} {D : Addr} {rows : List Rw} {js : List (List Str)} (z : JD P w K H D rows js) : Places K H (rows.map fun x => V.ref x.2.1) js := by
  obtain ⟨kd, pr⟩ := z
  have key := kd.key
  clear kd
  induction pr with
  | nil => exact .nil
  | @cons x ws rows js a b ih =>
    have k := (key x List.mem_cons_self).1
    rw [show x.1 = kA ws from a] at k
    exact .cons ⟨_, rfl, nis_inv k⟩ (ih fun y hy => key y (List.mem_cons_of_mem _ hy))
end
end K28
namespace K28
open PySem L2 Ld PyProof.Rows
abbrev sJF : Stmt := top 26
theorem addJ_len (js : List (List Str)) (ws : List Str) : (addJ js ws).length ≤ js.length + 1 := by
  unfold addJ
  split
  · omega
  · simp
theorem adds_len : ∀ (xs : List (List Str)) (js : List (List Str)), (xs.foldl addJ js).length ≤ js.length + xs.length
  | [], js => Nat.le_refl _
  | x :: xs, js => by
    rw [List.foldl_cons]
    have h1 := adds_len xs (addJ js x)
    have h2 := addJ_len js x
    simp only [List.length_cons]
    omega
theorem begsOf_len (ws : List Str) : (begsOf ws).length = ws.length + 1 := by
  unfold begsOf
  simp
theorem ruleJ_len (js : List (List Str)) {r : Rl} (h : r.pl.length ≤ 4) : (ruleJ js r).length ≤ js.length + 5 := by
  have h1 := adds_len (begsOf r.pl.dropLast) js
  rw [begsOf_len, List.length_dropLast] at h1
  unfold ruleJ
  split
  · have h2 := addJ_len ((begsOf r.pl.dropLast).foldl addJ js) r.pl
    omega
  · omega
theorem tabJ_len : ∀ (rs : List Rl) (js : List (List Str)), (∀ r ∈ rs, r.pl.length ≤ 4) → (tabJ js rs).length ≤ js.length + 5 * rs.length
  | [], js, _ => Nat.le_refl _
  | r :: rs, js, h => by
    have h1 := tabJ_len rs (ruleJ js r) fun t ht => h t (List.mem_cons_of_mem _ ht)
    have h2 := ruleJ_len js (h r List.mem_cons_self)
    show (tabJ (ruleJ js r) rs).length ≤ _
    simp only [List.length_cons]
    omega
theorem joints_len : ∀ (rss : List (List Rl)) (js : List (List Str)), (∀ rs ∈ rss, ∀ r ∈ rs, r.pl.length ≤ 4) → (rss.foldl tabJ js).length ≤ js.length + 5 * rss.flatten.length
  | [], js, _ => Nat.le_refl _
  | rs :: rss, js, h => by
    have h1 := joints_len rss (tabJ js rs) fun t ht => h t (List.mem_cons_of_mem _ ht)
    have h2 := tabJ_len rs js (h rs List.mem_cons_self)
    rw [List.foldl_cons, List.flatten_cons, List.length_append]
    omega
theorem flat_at {rss : List (List Rl)} {i : Nat} {rs : List Rl} (h : rss[i]? = some rs) : (rss.take i).flatten.length + rs.length ≤ rss.flatten.length := by
  have e : rss.take (i + 1) = rss.take i ++ [rs] := by rw [List.take_add_one, h]; rfl
  have e2 : rss.flatten = (rss.take (i + 1)).flatten ++ (rss.drop (i + 1)).flatten := by rw [← List.flatten_append, List.take_append_drop]
  rw [e2, e, List.flatten_append]
  simp
theorem cut_drop (ws : List Str) : cutV (ws.map V.str) none (some (-1)) = ws.dropLast.map V.str := by
  by_cases h : ws = []
  · subst h
    rfl
  · have e := List.dropLast_concat_getLast h
    have c := cut_last ws.dropLast (ws.getLast h)
    rw [e] at c
    exact c
section
variable {P : Program} {w : World} {K : PySem.W.Frag} {mg : Str → Option Value} {base : Heap} {f : Addr} {fd : FuncData} {CT : Addr}
/-- a list of tables -/
def Tabs (P : Program) (w : World) (K : PySem.W.Frag) (CT : Addr) (H : Hp) (xs : List V) (rss : List (List Rl)) : Prop := Paired (fun v rs => ∃ t, v = .ref t ∧ TabAt P w K CT H t rs) xs rss
theorem Tabs.same {H H' : Hp} {xs : List V} {rss : List (List Rl)} (z : Tabs P w K CT H xs rss) (s : Same H H') : Tabs P w K CT H' xs rss := Paired.mono (fun _ _ ⟨t, e, q⟩ => ⟨t, e, q.same s⟩) z
theorem TabAt.good {a : Addr} {H : Hp} {rs : List Rl} (z : TabAt P w K CT H a rs) : Good rs := by
  obtain ⟨_, _, _, _, _, _, _, _, _, h, _⟩ := z
  exact h
theorem Tabs.good {H : Hp} {xs : List V} {rss : List (List Rl)} (z : Tabs P w K CT H xs rss) : ∀ rs ∈ rss, Good rs := by
  induction z with
  | nil => exact fun rs h => by cases h
  | cons a b ih =>
    intro rs h
    rcases List.mem_cons.mp h with rfl | h
    · obtain ⟨_, _, q⟩ := a
      exact q.good
    · exact ih rs h
def spJF (P : Program) (w : World) (K : PySem.W.Frag) (CT : Addr) : Sp := fun vs H Q _ => ∃ (a : Addr) (xs : List V) (rss : List (List Rl)), vs = [.ref a] ∧ SqL K H a xs ∧ Tabs P w K CT H xs rss ∧ rss.flatten.length ≤ 150 ∧
  ∀ D H' rows, H D = none → Same H H' → JD P w K H' D rows (jointsOf rss) → Q (.ref D) H'
def jfN : List Str := ["tables", "found", "table", "sort", "place", "_", "start"]
theorem scJF : FnScope jfN ["tables"] (defScope sJF) := ⟨rfl, rfl, rfl, by decide +kernel, rfl, by decide +kernel, by decide +kernel⟩
theorem ok_jf {pR gR : Addr} {fdR : FuncData} (Fd : Fun K "joints_found" "joints_found" sJF f fd) (T : Tx mg) (C : Tcl K CT) (PR : PropOf K CT "rules" pR gR) (bR : Binds K fdR ["self"] []) (FR : FnOk P w K mg base CX0 1 gR fdR ["self"] (spRules P w K CT))
    (DB : Df P w K mg base 1 "beginnings" ["address"] (spBegs K)) : FnOk P w K mg base CX0 3 f fd ["tables"] (spJF P w K CT) := by
  refine Fd.ok scJF (fun vs H Q E h => ?_) (fun cdv A outer s H vs Q E hr h => ?_)
  · obtain ⟨a, xs, rss, rfl, _⟩ := h
    rfl
  · obtain ⟨a, xs, rss, rfl, ha, hT, hn, q⟩ := h
    have nd := scJF.nd
    have hu16 : (A.deeper (envOfC "joints_found" (defScope sJF) s.heap.objs.size f cdv)).units + 16 < cLine := Nat.lt_of_le_of_lt (Nat.add_le_add_left (by decide) _) hr.units
    refine ⟨_, pss_cons (ps_set (i := 1) nd rfl (Or.inl rfl) (pe_disp1NK (P := P) (w := w) (K := K) hu16 (pps_cons (pe_tup pa_nil) pe_bl pps_nil) rfl))
      (pss_cons (ps_for PassesOwn.never rfl (pi_list (pv 0)) (pg_name (i := 2) nd rfl (Or.inl rfl))
        (pss_one (ps_for PassesOwn.never rfl (pi_tup (pe_prop (E := E0) (dvs := []) (pv 2) C.cls PR FR (hr.mono (by decide)) bR .nil (fun _ _ _ _ _ _ _ z => z) rfl)) (pg_tup rfl (pgs_cons (pg_name (i := 3) nd rfl (Or.inl rfl)) (pgs_cons (pg_name (i := 4) nd rfl (Or.inl rfl)) (pgs_cons (pg_name (i := 5) nd rfl (Or.inl rfl)) pgs_nil))))
          (pss_cons (ps_for PassesOwn.never rfl (pi_list (pe_df DB hr (pa_cons (pe_slice (r := rSlW K) sl_tupK (pv 4) po_none (po_some (pe_un un_neg pe_int))) pa_nil))) (pg_name (i := 6) nd rfl (Or.inl rfl))
            (pss_one (ps_asg pe_bl (pg_sub (pv 1) (pv 6) (pset_kdK (P := P) (w := w) (K := K) hu16)))))
          (pss_one (ps_if (pt_cmpR op_eq (pv 3) pe_str (nomark _)) (pss_one (ps_asg pe_bl (pg_sub (pv 1) (pv 4) (pset_kdK (P := P) (w := w) (K := K) hu16)))) pss_nil))))))
      (pss_one (ps_ret (pv 1)))), ?_⟩
    intro D hD low
    have s1 : Same H (upd H D (kdO P w D [])) := Same.new hD
    have z1 : (upd H D (kdO P w D [])) D = some (kdO P w D []) := upd_same
    refine ⟨(show 0 ≤ sizeLine by decide), fun kb hkb => ?_⟩
    have s2 := Same.new (o := .tup []) hkb
    have k2 := upd_same (H := upd H D (kdO P w D [])) (a := kb) (o := .tup [])
    have z2 := s2 _ _ z1
    have s12 := s1.trans s2
    generalize upd (upd H D (kdO P w D [])) kb (.tup []) = G2 at s2 k2 z2 s12 ⊢
    have nk : NIs K G2 (kA []) (.ref kb) := nis_ws (.of k2)
    refine ⟨kb, kA [], .bl true, rfl, nk, kA_deep _, z2, ?_⟩
    have J0 : JD P w K (upd G2 D (kdO P w D (kPut [] (kA []) kb (.bl true)))) D (kPut [] (kA []) kb (.bl true)) [[]] := jd_put (js := []) ⟨⟨z2, low, Nat.zero_le _, fun x hx => nomatch hx⟩, .nil⟩ (Nat.zero_le _) nk
    have stay : ∀ {G : Hp} {o : HO}, Same H G → Same H (upd G D o) := fun {G o} s c u e => by
      rw [upd_ne (ne_of_none e hD)]
      exact s c u e
    have s3 := stay (o := kdO P w D (kPut [] (kA []) kb (.bl true))) s12
    generalize upd G2 D (kdO P w D (kPut [] (kA []) kb (.bl true))) = G3 at J0 s3 ⊢
    generalize kPut [] (kA []) kb (.bl true) = rows0 at J0
    have good := hT.good
    have sizes : ∀ {js : List (List Str)} {rows : List Rw} {G : Hp}, JD P w K G D rows js → rows.length = js.length := fun z => z.2.length
    refine ⟨_, rfl, a, rfl, ⟨_, s3.seq ha⟩, for_list (K := K) (a := a) (xs := xs) (fun i σ G => ∃ u2 u3 u4 u5 u6 rows, σ = [some (.ref a), some (.ref D), u2, u3, u4, u5, u6] ∧ Same H G ∧ JD P w K G D rows ((rss.take i).foldl tabJ [[]]))
      ⟨_, _, _, _, _, rows0, rfl, s3, J0⟩ (fun i σ G _ h => by obtain ⟨_, _, _, _, _, _, _, sG, _⟩ := h; exact sG.seq ha) ?_ ?_⟩
    · rintro i x σ G hx ⟨u2, u3, u4, u5, u6, rows, rfl, sG, jd⟩
      obtain ⟨rs, e1, t, rfl, Tt0⟩ := pair_get hT hx
      have Tt := Tt0.same sG
      have hmem := List.mem_of_getElem? e1
      have ok := (good rs hmem).ok
      have hfl := flat_at e1
      have l0 : ((rss.take i).foldl tabJ [[]]).length ≤ 1 + 5 * (rss.take i).flatten.length := joints_len (rss.take i) [[]] fun ts hts r hr => ((good ts (List.mem_of_mem_take hts)).ok r hr).len
      have tk : (rss.take (i + 1)).foldl tabJ [[]] = tabJ ((rss.take i).foldl tabJ [[]]) rs := by
        rw [List.take_add_one, e1, List.foldl_append]
        rfl
      rw [tk]
      generalize (rss.take i).foldl tabJ [[]] = js at jd l0 ⊢
      obtain ⟨dx, tt, td, tz, trows, tm, o8, _⟩ := id Tt
      refine ⟨_, rfl, t, dx, _, rfl, o8, t, rs, rfl, Tt, fun p ps G5 s5 hp hR => ?_⟩
      have jd5 := jd.same s5
      refine ⟨p, rfl, ⟨_, hp⟩, for_tup (K := K) (a := p) (xs := ps) (fun j σ G' => ∃ u3 u4 u5 u6 rows', σ = [some (.ref a), some (.ref D), some (.ref t), u3, u4, u5, u6] ∧ Same H G' ∧ (∀ b ys, SqT K G5 b ys → SqT K G' b ys) ∧ JD P w K G' D rows' (tabJ js (rs.take j)))
        ⟨_, _, _, _, rows, rfl, sG.trans s5, (fun _ _ z => z), jd5⟩ (fun j σ G' _ h => by obtain ⟨_, _, _, _, _, _, _, h, _⟩ := h; exact h _ _ hp) ?_ ?_⟩
      · rintro j y σ G' hy ⟨u3, u4, u5, u6, rows', rfl, sG', hT', jd'⟩
        obtain ⟨r, er, ra, rp, rx, rfl, h1, h2, h3⟩ := hR.get hy
        have rok := ok r (List.mem_of_getElem? er)
        have hj : j < rs.length := (List.getElem?_eq_some_iff.mp er).1
        have l1 : (tabJ js (rs.take j)).length ≤ js.length + 5 * (rs.take j).length := tabJ_len _ _ fun t ht => (ok t (List.mem_of_mem_take ht)).len
        rw [List.length_take] at l1
        have tk2 : tabJ js (rs.take (j + 1)) = ruleJ (tabJ js (rs.take j)) r := by
          unfold tabJ
          rw [List.take_add_one, er, List.foldl_append]
          rfl
        rw [tk2]
        generalize tabJ js (rs.take j) = js2 at jd' l1 ⊢
        have l2 : js2.length ≤ 751 := by omega
        refine ⟨ra, _, rfl, hT' _ _ h1, rfl, _, _, rfl, _, _, rfl, _, _, rfl, rfl, ?_⟩
        have hrl := rok.len
        refine ⟨_, rfl, _, rfl, _, rfl, rp, _, rfl, hT' _ _ h2, fun kp G6 s6 k6 => ?_⟩
        rw [cut_drop] at k6
        refine ⟨kp, r.pl.dropLast, rfl, k6, by rw [List.length_dropLast]; omega, fun bl bs G7 nbl s7 hbl lb db => ?_⟩
        obtain ⟨lb2, bg⟩ := dpAll_get db
        have s67 := s6.trans s7
        have hT7 : ∀ b ys, SqT K G5 b ys → SqT K G7 b ys := fun b ys z => same_T s67 (hT' b ys z)
        have sG7 := sG'.trans s67
        have jd7 := jd'.same s67
        have hbq : bs.length = r.pl.dropLast.length + 1 := by rw [lb2, begD_len]
        have hdl : r.pl.dropLast.length ≤ 4 := by
          rw [List.length_dropLast]
          omega
        refine ⟨bl, rfl, ⟨_, .of hbl⟩, for_list (K := K) (a := bl) (xs := bs) (fun k σ G'' => ∃ u6 rows'', σ = [some (.ref a), some (.ref D), some (.ref t), some (.str (sortS r.ex)), some (.ref rp), some rx, u6] ∧ Same H G'' ∧ (∀ b ys, SqT K G7 b ys → SqT K G'' b ys) ∧ G'' bl = some (.lst bs) ∧ JD P w K G'' D rows'' (((begsOf r.pl.dropLast).take k).foldl addJ js2))
          ⟨_, rows', rfl, sG7, (fun _ _ z => z), hbl, jd7⟩ (fun k σ G'' _ h => by obtain ⟨_, _, _, _, _, h, _⟩ := h; exact .of h) ?_ ?_⟩
        · rintro k y σ G'' hy2 ⟨u6', rows'', rfl, sG'', hT'', kbl, jd''⟩
          have hk : k < r.pl.dropLast.length + 1 := by
            have := (List.getElem?_eq_some_iff.mp hy2).1
            omega
          obtain ⟨d, hd1, hd2⟩ := bg k y hy2
          rw [begD_at _ hk] at hd1
          cases hd1
          obtain ⟨b, rfl, tb⟩ := wt_inv hd2
          have tb' := hT'' _ _ tb
          have e5 : ((begsOf r.pl.dropLast).take (k + 1)).foldl addJ js2 = addJ (((begsOf r.pl.dropLast).take k).foldl addJ js2) (r.pl.dropLast.take k) := by
            rw [List.take_add_one, begs_at _ (by omega), List.foldl_append]
            rfl
          have l3 := adds_len ((begsOf r.pl.dropLast).take k) js2
          rw [List.length_take] at l3
          have l4 := sizes jd''
          have D6 := jd''.1.at_
          have nbD : bl ≠ D := ne_of kbl D6 fun e => nomatch e
          refine ⟨_, rfl, _, rfl, b, D, kA (r.pl.dropLast.take k), rows'', rfl, rfl, nis_ws tb', kA_deep _, jd''.1, ?_⟩
          have jp := jd_put (v := .bl true) jd'' (by omega) (nis_ws tb')
          rw [← e5] at jp
          exact ⟨_, _, rfl, stay sG'', (fun c ys z => sqT_kd D6 (hT'' c ys z)), (upd_ne nbD).trans kbl, jp⟩
        · rintro σ G'' ⟨u6', rows'', rfl, sG'', hT'', kbl, jd''⟩
          have lbs : (begsOf r.pl.dropLast).length ≤ bs.length := by
            rw [begsOf_len]
            omega
          rw [List.take_of_length_le lbs] at jd''
          have l3 := adds_len (begsOf r.pl.dropLast) js2
          rw [begsOf_len] at l3
          have l4 := sizes jd''
          have h2' := hT'' _ _ (hT7 _ _ h2)
          have hT5 : ∀ b ys, SqT K G5 b ys → SqT K G'' b ys := fun b ys z => hT'' b ys (hT7 b ys z)
          refine ⟨_, rfl, rfl, _, rfl, ?_⟩
          unfold ruleJ
          cases hex : r.ex with
          | true =>
            refine iteT ⟨_, rfl, _, rfl, rp, D, kA r.pl, rows'', rfl, rfl, nis_ws h2', kA_deep _, jd''.1, ?_⟩
            have jp := jd_put (v := .bl true) jd'' (by omega) (nis_ws h2')
            exact ⟨_, _, _, _, _, rfl, stay sG'', (fun c ys z => sqT_kd jd''.1.at_ (hT5 c ys z)), by rw [if_pos rfl]; exact jp⟩
          | false =>
            refine iteF ⟨_, _, _, _, rows'', rfl, sG'', hT5, by rw [if_neg (by decide)]; exact jd''⟩
      · rintro σ G' ⟨u3, u4, u5, u6, rows', rfl, sG', hT', jd'⟩
        have lr := hR.length
        rw [List.take_of_length_le (by omega)] at jd'
        exact ⟨_, _, _, _, _, rows', rfl, sG', jd'⟩
    · rintro σ G ⟨u2, u3, u4, u5, u6, rows, rfl, sG, jd⟩
      have lx := Paired.length hT
      rw [List.take_of_length_le (by omega)] at jd
      exact ⟨_, rfl, q D G rows hD sG jd⟩
end
end K28
namespace K28
open PySem L2 Ld PyProof.Rows
theorem pl_zip {K : PySem.W.Frag} {H : Hp} : ∀ {xs : List V} {ss : List (List Str)}, Places K H xs ss → ∀ q ∈ xs.zip ss, ∃ p, q.1 = V.ref p ∧ SqT K H p (q.2.map V.str)
  | _, _, .nil => fun q h => by cases h
  | _, _, .cons a b => fun q h => by
    rw [List.zip_cons_cons] at h
    rcases List.mem_cons.mp h with rfl | h
    · exact a
    · exact pl_zip b q h
theorem keyD_bare (ws : List Str) : bareB (keyD ws) = true := by
  have h : ∀ ws : List Str, bareAll (ws.map PyData.str) = true := fun ws => by
    induction ws with
    | nil => rfl
    | cons w ws ih => exact ih
  simp [keyD, wt, bareB, bareAll, h]
theorem keyD_deep (ws : List Str) : (keyD ws).depth ≤ 8 := by
  have h := depth_words ws
  simp only [keyD, wt, PyData.depth, PyData.depthAll, h]
  omega

section
variable {K : PySem.W.Frag} {H H' : Hp}
mutual
/-- data without lists stands as long as its tuples do -/
theorem dp_off (hT : ∀ a xs, SqT K H a xs → SqT K H' a xs) : ∀ (d : PyData) (v : V), bareB d = true → Dp K H v d → Dp K H' v d
  | .none, _, _, z => by cases z; exact .non
  | .bool b, _, _, z => by cases z; exact .bl b
  | .int i, _, _, z => by cases z; exact .int i
  | .str x, _, _, z => by cases z; exact .str x
  | .list ds, _, e, _ => by cases e
  | .dict ds, _, e, _ => by cases e
  | .tuple ds, _, e, z => by
    cases z with
    | tup h1 h2 => exact .tup (hT _ _ h1) (dpAll_off hT ds _ e h2)
theorem dpAll_off (hT : ∀ a xs, SqT K H a xs → SqT K H' a xs) : ∀ (ds : List PyData) (vs : List V), bareAll ds = true → DpAll K H vs ds → DpAll K H' vs ds
  | [], _, _, z => by cases z; exact .nil
  | d :: ds, _, e, z => by
    have e2 := Bool.and_eq_true_iff.mp (show (bareB d && bareAll ds) = true from e)
    cases z with
    | cons a b => exact .cons (dp_off hT d _ e2.1 a) (dpAll_off hT ds _ e2.2 b)
end
end
theorem bare_ws : ∀ ws : List Str, bareAll (ws.map PyData.str) = true
  | [] => rfl
  | w :: ws => bare_ws ws
theorem bare_ans (rs : List Rl) (ws : List Str) : bareB (answerOf rs ws) = true := by
  unfold answerOf
  cases ruleFor rs ws with
  | none => rfl
  | some r =>
    obtain ⟨e, pl, an⟩ := r
    cases e <;> cases an <;> simp [ansOf, An.d, wt, bareB, bareAll, bare_ws, -List.map_append, -List.map_drop]
theorem dpAll_snoc {K : PySem.W.Frag} {H : Hp} {v : V} {d : PyData} : ∀ {vs : List V} {ds : List PyData}, DpAll K H vs ds → Dp K H v d → DpAll K H (vs ++ [v]) (ds ++ [d])
  | _, _, .nil, z => .cons z .nil
  | _, _, .cons a b, z => .cons a (dpAll_snoc b z)
theorem bare_list {α : Type} {g : α → PyData} : ∀ {l : List α}, (∀ x ∈ l, bareB (g x) = true) → bareAll (l.map g) = true
  | [], _ => rfl
  | x :: l, h => by
    show (bareB (g x) && bareAll (l.map g)) = true
    rw [h x List.mem_cons_self, bare_list fun y hy => h y (List.mem_cons_of_mem _ hy)]
    rfl
theorem sort_pls {K : PySem.W.Frag} {H : Hp} {l fk : Addr} {vs : List V} {ss : List (List Str)} {Q : VK} (hl : SqL K H l vs) (hp : Places K H vs ss) (hn : ss.length ≤ 1000) (q : ∀ H1 p ys, H p = none → Same H H1 → H1 p = some (.lst ys) → Places K H1 ys (sortA ss) → Q (.ref p) H1) :
    rSortK K fk (spKey K) [.ref l] [.ref fk] H Q := by
  have zz := zip_fst hp.length
  have ln := hp.length
  refine ⟨l, (vs.zip ss).map fun q => (q.1, keyD q.2), rfl, rfl, ?_, ?_, ?_, ?_, ?_, fun H2 q1 s2 hq nq => ?_⟩
  · rw [List.map_map]
    show SqL K H l ((vs.zip ss).map (·.1))
    rw [zz.1]
    exact hl
  · rw [List.length_map, List.length_zip]
    omega
  · intro d hd d' hd'
    simp only [List.map_map, List.mem_map] at hd hd'
    obtain ⟨p1, _, rfl⟩ := hd
    obtain ⟨p2, _, rfl⟩ := hd'
    exact alike_key _ _
  · refine .inl fun d hd => ?_
    simp only [List.map_map, List.mem_map] at hd
    obtain ⟨p1, _, rfl⟩ := hd
    exact ⟨_, _, rfl⟩
  · intro z hz
    obtain ⟨p1, h1, rfl⟩ := List.mem_map.mp hz
    obtain ⟨pa, ea, ta⟩ := pl_zip hp p1 h1
    refine ⟨keyD_bare _, keyD_deep _, fun H1 sH1 => ?_⟩
    show spKey K [p1.1] H1 _ E0
    rw [ea]
    exact ⟨pa, p1.2, rfl, same_T sH1 ta, fun y H' sy dy => ⟨sy, dy⟩⟩
  · have pl := sorted_pl hp
    generalize (((vs.zip ss).map fun q => (q.1, keyD q.2)).mergeSort (PySem.W.dataLe false Prod.snd)).map Prod.fst = ys at pl ⊢
    have s3 := s2.trans (Same.new (o := .lst ys) hq)
    exact q _ _ _ (s2.free hq) s3 upd_same (Paired.mono (fun _ _ ⟨p, e, z⟩ => ⟨p, e, same_T s3 z⟩) pl)
end K28
namespace K28
open PySem L2 Ld PyProof.Rows
abbrev sWith : Stmt := meth 7
abbrev sOut : Stmt := meth 8
/-! ### tables made -/
structure Tmk (P : Program) (w : World) (K : PySem.W.Frag) (mg : Str → Option Value) (base : Heap) (CT : Addr) : Prop where
  gT : mg "Table" = some (.ref CT)
  ex : ∃ fI fdI, Mk K CT fI ∧ Binds K fdI ["self", "rules"] [] ∧ FnOk P w K mg base CX0 6 fI fdI ["self", "rules"] (spInit P w K CT)
theorem make_sp {P : Program} {w : World} {K : PySem.W.Frag} {CT la : Addr} {H1 : Hp} {xs : List V} {rs : List Rl} {Q : Addr → Hp → Prop} (hl : SqL K H1 la xs) (hR : Rules K H1 xs rs) (hG : Good rs) (q : ∀ a H', H1 a = none → Same H1 H' → TabAt P w K CT H' a (sortR rs) → Q a H') :
    ∀ x dx, H1 x = none → H1 dx = none → dx ≠ x → spInit P w K CT (.ref x :: ([.ref la] ++ [])) (upd (upd H1 dx (.own x)) x (.ins CT dx [])) (fun v H2 => v = .non ∧ Q x H2) E0 := fun x dx hx hd ne => by
  have s1 : Same H1 (upd (upd H1 dx (.own x)) x (.ins CT dx [])) := fun b o e => by
    rw [upd_ne (ne_of_none e hx), upd_ne (ne_of_none e hd)]
    exact e
  exact ⟨x, dx, la, xs, rs, rfl, upd_same, s1.seq hl, hR.same s1, hG, fun H' fr tb => ⟨rfl, q x H' hx (fun b o e => fr b o (ne_of_none e hx) (s1 _ _ e)) tb⟩⟩
section
variable {X : Cx} {CT : Addr} {e : Expr} {es : List Expr} {ta : TA} {p pos : Pos}
theorem op_neDK {X : Cx} {K : PySem.W.Frag} (hu : X.A.units + 64 < cLine) (hK : X.K = K := by rfl) : OpR X (compareOp .NotEq) (rNeD K) := by
  subst hK
  exact op_neD hu
theorem pe_table {j : Nat} (B : Tmk X.prog X.w X.K X.mg X.base CT) (hr : Room j X.A) (ha : PA X [e] ta) (hj : 7 ≤ j := by decide) (hg : Gl X "Table" := by rfl) (he : starEach [e] X.env = (false, eval e X.env) :: starEach [] X.env := by rfl) : PE X (.Call (.Name "Table" p) [e] [] pos) (tMake CT (spInit X.prog X.w X.K CT) [] E0 ta) :=
  let ⟨_, _, M, hb, F⟩ := B.ex
  pe_make (E := E0) (dvs := []) M F (hr.mono hj) hg B.gT hb .nil (fun _ _ _ _ _ _ _ z => False.elim z) ha (by decide) he rfl
end
/-! ### a rule more, a rule less -/
def sameK (b : Bool) (ws : List Str) (r : Rl) : Bool := decide (r.ex = b) && decide (r.pl = ws)
def others (b : Bool) (ws : List Str) (rs : List Rl) : List Rl := rs.filter fun r => !sameK b ws r
def headD (b : Bool) (ws : List Str) : PyData := .tuple [.str (sortS b), wt ws]
theorem others_snoc (b : Bool) (ws : List Str) (l : List Rl) (r : Rl) : others b ws (l ++ [r]) = others b ws l ++ (if sameK b ws r = true then [] else [r]) := by
  unfold others
  rw [List.filter_append]
  cases h : sameK b ws r <;> simp [List.filter, h]
theorem Good.out {rs : List Rl} (h : Good rs) (b : Bool) (ws : List Str) : Good (others b ws rs) :=
  ⟨fun r hr => h.ok r (List.mem_filter.mp hr).1, Nat.le_trans (List.length_filter_le _ _) h.few, List.Nodup.sublist (List.Sublist.map _ List.filter_sublist) h.one⟩
theorem Good.sort {rs : List Rl} (h : Good rs) : Good (sortR rs) :=
  ⟨fun r hr => h.ok r ((sortR_perm rs).mem_iff.mp hr), by rw [(sortR_perm rs).length_eq]; exact h.few, sortR_nodup h.one⟩
theorem Good.more {rs : List Rl} (h : Good rs) {r : Rl} (ok : r.Ok) (few : (others r.ex r.pl rs).length < 40) : Good (others r.ex r.pl rs ++ [r]) := by
  refine ⟨fun t ht => ?_, by simp; omega, ?_⟩
  · rcases List.mem_append.mp ht with ht | ht
    · exact (h.out r.ex r.pl).ok t ht
    · rw [List.mem_singleton.mp ht]
      exact ok
  · rw [List.map_append, List.nodup_append]
    refine ⟨(h.out r.ex r.pl).one, by simp, fun x hx y hy e => ?_⟩
    obtain ⟨t, ht, rfl⟩ := List.mem_map.mp hx
    have ey : y = r.key := by simpa using hy
    rw [ey] at e
    have k := key_inj e
    have n := (List.mem_filter.mp ht).2
    simp [sameK, k.1, k.2] at n
theorem sort_twice {rs : List Rl} (h : (rs.map Rl.key).Nodup) : sortR (sortR rs) = sortR rs := sortR_eq (sortR_nodup h) (sortR_perm rs)
theorem sort_sp {K : PySem.W.Frag} {H : Hp} {l fk : Addr} {xs : List V} {rs : List Rl} {Q : VK} (hl : SqL K H l xs) (hR : Rules K H xs rs) (few : rs.length ≤ 1000) (q : ∀ H1 p ys, Same H H1 → H1 p = none → Rules K H1 ys (sortR rs) → Q (.ref p) (upd H1 p (.lst ys))) :
    rSortK K fk (spRK K) [.ref l] [.ref fk] H Q := by
  have ln := hR.length
  have zz := zip_fst ln
  refine ⟨l, (xs.zip rs).map zOf, rfl, rfl, ?_, ?_, ?_, ?_, ?_, fun H1 p s1 hp _ => q H1 p _ s1 hp (sorted_rules (hR.same s1))⟩
  · rw [List.map_map]
    show SqL K H l ((xs.zip rs).map (·.1))
    rw [zz.1]
    exact hl
  · rw [List.length_map, List.length_zip]
    omega
  · intro d hd d' hd'
    simp only [List.map_map, List.mem_map] at hd hd'
    obtain ⟨p1, _, rfl⟩ := hd
    obtain ⟨p2, _, rfl⟩ := hd'
    exact kd_alike _ _
  · refine .inl fun d hd => ?_
    simp only [List.map_map, List.mem_map] at hd
    obtain ⟨p1, _, rfl⟩ := hd
    exact ⟨_, _, rfl⟩
  · intro z hz
    obtain ⟨p1, hp, rfl⟩ := List.mem_map.mp hz
    exact ⟨kd_bare _, kd_deep _, fun H1 sH => ⟨p1.1, p1.2, rfl, (rules_zip hR p1 hp).same sH, fun y H' sy dy => ⟨sy, dy⟩⟩⟩
theorem head_dp {K : PySem.W.Frag} {H : Hp} {p q : Addr} {b : Bool} {ws : List Str} (h : SqT K H p [.str (sortS b), .ref q]) (h2 : SqT K H q (ws.map V.str)) : Dp K H (.ref p) (headD b ws) := .tup h (.cons (.str _) (.cons (dp_ws h2) .nil))
theorem Rules.at {K : PySem.W.Frag} {G G2 : Hp} {D : Addr} {ks ys : List V} {rs : List Rl} (z : Rules K G ys rs) (hD : G D = some (.lst ks)) (fr : ∀ c o, c ≠ D → G c = some o → G2 c = some o) : Rules K G2 ys rs := z.mono fun _ _ q => sqT_off hD fr q
theorem eqv_head (b c : Bool) (ws us : List Str) : PyData.eqv (headD b ws) (headD c us) = (decide (b = c) && decide (ws = us)) := by
  show (PyData.eqv (.str (sortS b)) (.str (sortS c)) && (PyData.eqv (wt ws) (wt us) && true)) = _
  rw [eqv_str, eqv_wt, Bool.and_true]
  by_cases h : b = c
  · subst h
    simp
  · rw [decide_eq_false h, decide_eq_false fun e => h (sortS_inj e)]
theorem shaped_head (b : Bool) {ws : List Str} (h : ∀ z ∈ ws, Wd z) : SeqAt.shaped (headD b ws) = true := by
  unfold SeqAt.shaped
  have d := depth_words ws
  have h2 : (headD b ws).depth ≤ 64 := by
    simp only [headD, wt, PyData.depth, PyData.depthAll, d]
    omega
  rw [decide_eq_true h2]
  simp [headD, PyData.canLay0, PyData.canLayAll0, ok_str (asc_sort b), lay_wt h]
end K28
namespace K28
open PySem L2 Ld PyProof.Rows
abbrev sShuf : Stmt := top 34
abbrev sPool : Stmt := top 35
def tmenu : List Str := ["a", "b", "c", "aa", "zz"]
theorem wdt {z : Str} (h : z ∈ tmenu) : Wd z := show z ∈ wds from of_decide_eq_true (List.all_eq_true.mp (show tmenu.all (fun z => decide (z ∈ wds)) = true by decide +kernel) z h)
theorem shaped_strs {us : List Str} (h : ∀ z ∈ us, Wd z) : SeqAt.shaped (.list (us.map PyData.str)) = true := by
  unfold SeqAt.shaped
  have d := depth_words us
  have h2 : (PyData.list (us.map PyData.str)).depth ≤ 64 := by
    simp only [PyData.depth, d]
    decide
  rw [decide_eq_true h2]
  simp only [PyData.canLay0, lay_words fun z hz => (h z hz).low, Bool.and_self]
theorem eqv_strs0 (us : List Str) : PyData.eqv (.list (us.map PyData.str)) (.list []) = us.isEmpty := by
  cases us <;> simp [PyData.eqv, PyData.eqvAll]
theorem seq_at {k : Int} {n : Nat} (h0 : 0 ≤ k) (h1 : k < n) : seqIndex? k n = some k.toNat := by
  unfold seqIndex?
  have e : (if k < 0 then k + (n : Int) else k) = k := if_neg (by omega)
  simp only [e]
  exact if_pos (by rw [decide_eq_true h0, decide_eq_true h1]; rfl)
theorem cut_upto (xs : List V) (k : Nat) : cutV xs none (some (k : Int)) = xs.take k := by
  unfold cutV
  rw [HT.sIx_none, HT.sIx_nat, List.drop_zero, Nat.sub_zero]
  by_cases h : k ≤ xs.length
  · rw [Nat.min_eq_left h]
  · rw [Nat.min_eq_right (by omega), List.take_of_length_le (Nat.le_refl _), List.take_of_length_le (by omega)]
theorem erase_map {α β : Type} (g : α → β) : ∀ (l : List α) (k : Nat), (l.map g).eraseIdx k = (l.eraseIdx k).map g
  | [], _ => rfl
  | _ :: _, 0 => rfl
  | x :: l, k + 1 => by
    show g x :: (l.map g).eraseIdx k = g x :: (l.eraseIdx k).map g
    rw [erase_map g l k]
section
variable {P : Program} {w : World} {K : PySem.W.Frag} {mg : Str → Option Value} {base : Heap} {f : Addr} {fd : FuncData}
def spShuf (K : PySem.W.Frag) : Sp := fun vs H Q _ => ∃ (wa la : Addr) (zs : List Str), vs = [.ref wa, .ref la] ∧ Sm H wa ∧ SqL K H la (zs.map V.str) ∧ zs.length ≤ 50 ∧ (∀ z ∈ zs, Wd z) ∧
  ∀ (l : Addr) (ys : List Str) (H' : Hp), H' l = some (.lst (ys.map V.str)) → (∀ z ∈ ys, z ∈ zs) → ys.length = zs.length → Sm H' wa → Sb wa H H' → Q (.ref l) H'
def shufN : List Str := ["_law_stream_here", "_law_items", "_law_left", "_law_found"]
theorem scShuf : FnScope shufN ["_law_stream_here", "_law_items"] (defScope sShuf) := ⟨rfl, rfl, rfl, by decide +kernel, rfl, by decide +kernel, by decide +kernel⟩
theorem ok_shuf (Fd : Fun K "_law_shuffled" "_law_shuffled" sShuf f fd) (T : Tx mg) (D : Df P w K mg base 1 "_law_draw" ["_law_stream_here", "_law_size"] spDraw) : FnOk P w K mg base CX0 2 f fd ["_law_stream_here", "_law_items"] (spShuf K) := by
  refine Fd.ok scShuf (fun vs H Q E h => ?_) (fun cdv A outer s H vs Q E hr h => ?_)
  · obtain ⟨wa, la, zs, rfl, _⟩ := h
    rfl
  · obtain ⟨wa, la, zs, rfl, W, hS, hlen, hw, q⟩ := h
    have nd := scShuf.nd
    refine ⟨_, pss_cons (ps_par (i := 2) (j := 3) (by rfl) nd rfl rfl (by decide) rfl rfl (pa_cons (pe_callTy call_list_of (by rfl) T.list (by decide +kernel) (pa_cons (pv 1) pa_nil)) (pa_cons (pe_lstN pa_nil) pa_nil)) (by rfl))
      (pss_cons (ps_while PassesOwn.never (pt_cmpR (op_neD hr.units) (pv 2) (pe_lst pa_nil) (nomark _))
        (pss_one (ps_expr (pe_bm PySem.F.plainAttrs_list PySem.F.slot_list_append PySem.F.type_list_append mt_append (pv 3) (pa_cons (pe_bm PySem.F.plainAttrs_list PySem.F.slot_list_pop PySem.F.type_list_pop mt_popAt (pv 2)
          (pa_cons (pe_df D hr (pa_cons (pv 0) (pa_cons (pe_callB call_len_seq (by rfl) T.len PySem.boot_len (pa_cons (pv 2) pa_nil)) pa_nil))) pa_nil)) pa_nil)))))
      (pss_one (ps_ret (pv 3)))), ?_⟩
    refine ⟨_, rfl, la, _, rfl, .inl hS, fun l hl => ⟨(show 0 ≤ sizeLine by decide), fun mx hm nm => ⟨_, _, rfl, ?_⟩⟩⟩
    have s1 := Same.new (o := .lst (zs.map V.str)) hl
    have s2 := Same.new (o := .lst []) hm
    have nl : H l = none := hl
    have nmx : H mx = none := s1.free hm
    have kl := s2 _ _ (upd_same (H := H) (a := l) (o := .lst (zs.map V.str)))
    have km := upd_same (H := upd H l (.lst (zs.map V.str))) (a := mx) (o := .lst [])
    have ne : l ≠ mx := ne_of_none (upd_same (H := H) (a := l) (o := .lst (zs.map V.str))) hm
    have s12 := s1.trans s2
    have W2 := W.same s12
    have b2 : Sb wa H (upd (upd H l (.lst (zs.map V.str))) mx (.lst [])) := .of s12
    generalize upd (upd H l (.lst (zs.map V.str))) mx (.lst []) = G2 at kl km W2 b2 ⊢
    have wlH : ∀ c, H c = none → c ≠ wa := fun c hc e => by
      obtain ⟨_, _, h, _⟩ := W
      rw [e, h] at hc
      cases hc
    refine ⟨fun m σ G => ∃ us ys : List Str, σ = [some (.ref wa), some (.ref la), some (.ref l), some (.ref mx)] ∧ G l = some (.lst (us.map V.str)) ∧ G mx = some (.lst (ys.map V.str)) ∧ (∀ z ∈ us, z ∈ zs) ∧ (∀ z ∈ ys, z ∈ zs) ∧ us.length + ys.length = zs.length ∧ Sm G wa ∧ Sb wa H G ∧ m = us.length,
      ⟨_, zs, [], rfl, kl, km, (fun z hz => hz), (fun z hz => nomatch hz), rfl, W2, b2, rfl⟩, ?_⟩
    rintro m σ G ⟨us, ys, rfl, gl, gm, hu, hy, hlen2, WG, sG, rfl⟩
    refine ⟨_, rfl, (show 0 ≤ sizeLine by decide), fun d hd => ?_⟩
    have s3 := Same.new (o := .lst []) hd
    have gl3 := s3 _ _ gl
    have gm3 := s3 _ _ gm
    have WG3 := WG.same s3
    have sG3 := sG.trans (.of s3)
    refine ⟨.list (us.map PyData.str), .list [], .lst (.of gl3) (dp_strs us), .lst (.of upd_same) .nil, shaped_strs (fun z hz => hw z (hu z hz)), (by decide +kernel), _, rfl, ?_⟩
    rw [eqv_strs0]
    generalize upd G d (.lst []) = G3 at gl3 gm3 WG3 sG3 ⊢
    cases hus : us with
    | nil =>
      subst hus
      exact iteF ⟨_, rfl, q mx ys G3 gm3 hy (by simpa using hlen2) WG3 sG3⟩
    | cons u0 us0 =>
      rw [← hus]
      have e0 : us.isEmpty = false := by
        rw [hus]
        rfl
      rw [e0]
      have pos : 0 < us.length := by rw [hus]; simp
      have lt : (us.map V.str).length = us.length := List.length_map ..
      refine iteT ⟨_, fun σ' G' h => h, ?_⟩
      refine ⟨_, rfl, Or.inl ⟨rfl, _, Or.inl (Or.inl gm3)⟩, _, rfl, Or.inl ⟨rfl, _, Or.inl (Or.inl gl3)⟩, _, rfl, _, rfl, l, _, rfl, .inl (.of gl3), wa, _, rfl, WG3, by omega, by omega, fun k G4 k0 k1 W4 s4 => ?_⟩
      have gl4 := s4 _ _ (WG3.ne gl3 (notSm_strs _)) gl3
      have gm4 := s4 _ _ (WG3.ne gm3 (notSm_strs _)) gm3
      obtain ⟨z, hz⟩ : ∃ z, us[k.toNat]? = some z := ⟨us[k.toNat]'(by omega), List.getElem?_eq_getElem _⟩
      have hzm := hu z (List.mem_of_getElem? hz)
      refine ⟨l, us.map V.str, k, k.toNat, .str z, rfl, rfl, gl4, by omega, by omega, seq_at k0 k1, by rw [List.getElem?_map, hz]; rfl, ?_⟩
      have gm5 : (upd G4 l (.lst ((us.map V.str).eraseIdx k.toNat))) mx = some (.lst (ys.map V.str)) := (upd_ne ne.symm).trans gm4
      refine ⟨mx, ys.map V.str, .str z, rfl, rfl, gm5, Nat.lt_of_le_of_lt (show (ys.map V.str).length ≤ 50 by rw [List.length_map]; omega) (by decide), ?_⟩
      have le : (us.eraseIdx k.toNat).length = us.length - 1 := List.length_eraseIdx_of_lt (by omega)
      have sb : ∀ {A B : Hp}, Sb wa H A → (∀ c o, c ≠ l → c ≠ mx → A c = some o → B c = some o) → Sb wa H B := fun {A B} h1 h2 c o n e => h2 c o (ne_of_none e nl) (ne_of_none e nmx) (h1 c o n e)
      refine ⟨(us.eraseIdx k.toNat).length, by omega, us.eraseIdx k.toNat, ys ++ [z], rfl, ?_, ?_, fun x hx => hu x (List.mem_of_mem_eraseIdx hx), fun x hx => ?_, by rw [List.length_append, List.length_singleton]; omega, ?_, ?_, rfl⟩
      · rw [upd_ne ne, upd_same, erase_map]
      · rw [upd_same, List.map_append]
        rfl
      · rcases List.mem_append.mp hx with h | h
        · exact hy x h
        · rw [List.mem_singleton.mp h]
          exact hzm
      · obtain ⟨a1, a2, a3, a4⟩ := W4
        exact ⟨a1, a2, by rw [upd_ne (wlH mx nmx).symm, upd_ne (wlH l nl).symm]; exact a3, a4⟩
      · exact sb (sG3.trans s4) fun c o n1 n2 e => by
          rw [upd_ne n2, upd_ne n1]
          exact e
def spPool : Sp := fun vs H Q _ => ∃ (wa : Addr), vs = [.ref wa] ∧ Sm H wa ∧ ∀ (p : Addr) (zs : List Str) (H' : Hp), H' p = some (.lst (zs.map V.str)) → (∀ z ∈ zs, z ∈ tmenu) → zs ≠ [] → zs.length ≤ 5 → Sm H' wa → Sb wa H H' → Q (.ref p) H'
theorem scPool : FnScope ["_law_stream_here"] ["_law_stream_here"] (defScope sPool) := ⟨rfl, rfl, rfl, by decide +kernel, rfl, by decide +kernel, by decide +kernel⟩
theorem ok_pool (Fd : Fun K "_law_words" "_law_words" sPool f fd) (D : Df P w K mg base 1 "_law_draw" ["_law_stream_here", "_law_size"] spDraw) (S : Df P w K mg base 2 "_law_shuffled" ["_law_stream_here", "_law_items"] (spShuf K)) : FnOk P w K mg base CX0 3 f fd ["_law_stream_here"] spPool := by
  refine Fd.ok scPool (fun vs H Q E h => ?_) (fun cdv A outer s H vs Q E hr h => ?_)
  · obtain ⟨wa, rfl, _⟩ := h
    rfl
  · obtain ⟨wa, rfl, W, q⟩ := h
    refine ⟨_, pss_one (ps_ret (pe_slice sl_list (pe_df S hr (pa_cons (pv 0) (pa_cons (pe_lst (pa_cons pe_str (pa_cons pe_str (pa_cons pe_str (pa_cons pe_str (pa_cons pe_str pa_nil)))))) pa_nil))) po_none (po_some (pe_op op_add pe_int (pe_df D hr (pa_cons (pv 0) (pa_cons pe_int pa_nil))))))), ?_⟩
    refine ⟨_, rfl, (show 5 ≤ sizeLine by decide), fun ml hml => ?_⟩
    have s1 := Same.new (o := .lst (tmenu.map V.str)) hml
    refine ⟨wa, ml, tmenu, rfl, W.same s1, .of upd_same, by decide, (fun z hz => wdt hz), fun l ys G2 gl hy hl W2 s2 => ?_⟩
    have hl : ys.length = 5 := hl
    refine ⟨_, rfl, wa, 3, rfl, W2, by decide, by decide, fun k G3 k0 k1 W3 s3 => ⟨_, _, rfl, rfl, _, rfl, ?_⟩⟩
    have gl3 := s3 _ _ (W2.ne gl (notSm_strs _)) gl
    refine ⟨l, _, rfl, .of gl3, fun p hp => ?_⟩
    have s4 := Same.new (o := .lst (cutV (ys.map V.str) none (some (2 + k)))) hp
    obtain ⟨m, em⟩ : ∃ m : Nat, (2 + k : Int) = (m : Int) := ⟨(2 + k).toNat, by omega⟩
    have e1 : cutV (ys.map V.str) none (some (2 + k)) = (ys.take m).map V.str := by
      rw [em, cut_upto, List.map_take]
    refine q p (ys.take m) _ (by rw [upd_same, e1]) (fun z hz => hy z (List.mem_of_mem_take hz)) (fun e => ?_) (by rw [List.length_take]; omega) (W3.same s4) (fun c o n e => s4 _ _ (s3 c o n (s2 c o n (s1 _ _ e))))
    have := congrArg List.length e
    rw [List.length_take, List.length_nil] at this
    omega
end
end K28
namespace K28
open PySem L2 Ld PyProof.Rows
abbrev sPlaceOf : Stmt := top 36
abbrev sTold : Stmt := top 37
theorem wd_pqr {z : Str} (h : z ∈ (["p", "q", "r"] : List Str)) : Wd z := by
  simp only [List.mem_cons, List.not_mem_nil, or_false] at h
  rcases h with rfl | rfl | rfl <;> (unfold Wd; decide +kernel)
section
variable {P : Program} {w : World} {K : PySem.W.Frag} {mg : Str → Option Value} {base : Heap} {f : Addr} {fd : FuncData}
def spPlaceOf (K : PySem.W.Frag) : Sp := fun vs H Q _ => ∃ (wa pa : Addr) (zs : List Str), vs = [.ref wa, .ref pa] ∧ Sm H wa ∧ H pa = some (.lst (zs.map V.str)) ∧ zs ≠ [] ∧ zs.length ≤ 50 ∧
  ∀ (r : Addr) (ws : List Str) (H' : Hp), SqT K H' r (ws.map V.str) → (∀ z ∈ ws, z ∈ zs) → ws.length ≤ 3 → Sm H' wa → Sb wa H H' → Q (.ref r) H'
def plcN : List Str := ["_law_stream_here", "_law_words_here", "_law_turn"]
theorem scPlaceOf : FnScope plcN ["_law_stream_here", "_law_words_here"] (defScope sPlaceOf) := ⟨rfl, rfl, rfl, by decide +kernel, rfl, by decide +kernel, by decide +kernel⟩
theorem ok_placeOf (Fd : Fun K "_law_place" "_law_place" sPlaceOf f fd) (T : Tx mg) (C : Df P w K mg base 2 "_law_choose" ["_law_stream_here", "_law_items"] (spChoose K)) : FnOk P w K mg base CX0 3 f fd ["_law_stream_here", "_law_words_here"] (spPlaceOf K) := by
  refine Fd.ok scPlaceOf (fun vs H Q E h => ?_) (fun cdv A outer s H vs Q E hr h => ?_)
  · obtain ⟨wa, pa, zs, rfl, _⟩ := h
    rfl
  · obtain ⟨wa, pa, zs, rfl, W, hp, hne, hlen, q⟩ := h
    have nd := scPlaceOf.nd
    refine ⟨_, pss_one (ps_ret (pe_callTy call_tuple_of (by rfl) T.tuple (by decide +kernel) (pa_cons (pe_lc (own := [("_law_turn", 2)]) (g := gName 2) (tt := tYes) (by rfl) nd (pi_range1 rfl T.range (pa_cons (pe_df C hr (pa_cons (pv 0) (pa_cons (pe_lst (pa_cons pe_int (pa_cons pe_int (pa_cons pe_int (pa_cons pe_int (pa_cons pe_int (pa_cons pe_int (pa_cons pe_int pa_nil)))))))) pa_nil))) pa_nil)) (blkOk_by (own := [("_law_turn", 2)]) (N := plcN) (sc := defScope sPlaceOf) (by decide +kernel))
          (fun _ _ _ _ _ => pg_name (i := 2) nd rfl (Or.inl rfl)) (fun _ _ _ _ _ => pts_nil) (fun _ _ _ _ _ => pe_df C hr (pa_cons (pv 0) (pa_cons (pv 1) pa_nil)))) pa_nil))), ?_⟩
    refine ⟨_, rfl, (show 7 ≤ sizeLine by decide), fun il hil => ?_⟩
    have s1 := Same.new (o := .lst (([0, 1, 1, 1, 2, 2, 3] : List Int).map V.int)) hil
    refine ⟨wa, il, ([0, 1, 1, 1, 2, 2, 3] : List Int).map V.int, rfl, W.same s1, .of upd_same, trivial, by decide, by decide, fun v G2 hv W2 s2 => ?_⟩
    obtain ⟨m, hm, rfl⟩ := List.mem_map.mp hv
    have hm3 : 0 ≤ m ∧ m ≤ 3 := by
      simp only [List.mem_cons, List.not_mem_nil, or_false] at hm
      omega
    have s12 : Sb wa H G2 := fun c o n e => s2 c o n (s1 _ _ e)
    have hp2 := s12 _ _ (W.ne hp (notSm_strs _)) hp
    refine ⟨m, rfl, by omega, by omega, fun D hD => ?_⟩
    refine lc_range (lo := 0) (n := m.toNat) (fun i G => Sb wa G2 G ∧ Sm G wa ∧ D ≠ wa ∧ ∃ ws : List Str, G D = some (.lst (ws.map V.str)) ∧ (∀ z ∈ ws, z ∈ zs) ∧ ws.length ≤ i) ⟨.of (Same.new hD), W2.same (Same.new hD), fun e => ?_, [], upd_same, (fun z hz => nomatch hz), Nat.le_refl _⟩ ?_ ?_
    · obtain ⟨d, mm, h1, _⟩ := W2
      rw [e, h1] at hD
      cases hD
    · rintro e G hk ⟨sG4, WG, neD, ws, hDl, hws, hwl⟩
      refine ⟨rfl, ?_⟩
      show tDf (spChoose K) (tCons (tVar 0) (tCons (tVar 1) tNil)) _ _ _
      have hpG := sG4 _ _ (W2.ne hp2 (notSm_strs _)) hp2
      refine ⟨_, rfl, _, rfl, wa, pa, zs.map V.str, rfl, WG, .of hpG, notSm_strs _, by simpa using hne, by rw [List.length_map]; omega, fun v G' hv W' s' => ?_⟩
      obtain ⟨z, hz, rfl⟩ := List.mem_map.mp hv
      have hD' := s' D _ neD hDl
      refine ⟨_, hD', by rw [List.length_map]; exact Nat.lt_of_le_of_lt (show ws.length ≤ 3 by omega) (by decide), fun b o nb eb => ?_, ?_, neD, ws ++ [z], ?_, fun y hy => ?_, by simp; omega⟩
      · rw [upd_ne (ne_of_none eb hD)]
        exact s' b o nb (sG4 b o nb eb)
      · obtain ⟨d, m, h1, h2⟩ := W'
        exact ⟨d, m, by rw [upd_ne neD.symm]; exact h1, h2⟩
      · rw [upd_same, List.map_append]
        rfl
      · rcases List.mem_append.mp hy with g | g
        · exact hws y g
        · rw [List.mem_singleton.mp g]
          exact hz
    · rintro G ⟨sG4, WG, neD, ws, hDl, hws, hwl⟩
      refine ⟨D, _, rfl, .inl ⟨.of hDl, fun t nt => ?_⟩⟩
      have zt := Same.new (o := .tup (ws.map V.str)) nt
      exact q t ws _ (.of upd_same) hws (by omega) (WG.same zt) (fun c o n e => zt _ _ (sG4 c o n (s12 c o n e)))
def spTold (K : PySem.W.Frag) : Sp := fun vs H Q _ => ∃ (wa pa : Addr) (zs : List Str) (b : Bool), vs = [.ref wa, .ref pa, .str (sortS b)] ∧ Sm H wa ∧ H pa = some (.lst (zs.map V.str)) ∧ zs ≠ [] ∧ zs.length ≤ 50 ∧ (∀ z ∈ zs, Wd z) ∧
  ∀ (v : V) (an : An) (H' : Hp), AnAt K H' v b an → an.Ok → Sm H' wa → Sb wa H H' → Q v H'
def tldN : List Str := ["_law_stream_here", "_law_words_here", "_law_sort", "_law_way"]
theorem scTold : FnScope tldN ["_law_stream_here", "_law_words_here", "_law_sort"] (defScope sTold) := ⟨rfl, rfl, rfl, by decide +kernel, rfl, by decide +kernel, by decide +kernel⟩
theorem ok_told (Fd : Fun K "_law_told" "_law_told" sTold f fd) (D : Df P w K mg base 1 "_law_draw" ["_law_stream_here", "_law_size"] spDraw) (C : Df P w K mg base 2 "_law_choose" ["_law_stream_here", "_law_items"] (spChoose K)) (L : Df P w K mg base 3 "_law_place" ["_law_stream_here", "_law_words_here"] (spPlaceOf K)) :
    FnOk P w K mg base CX0 4 f fd ["_law_stream_here", "_law_words_here", "_law_sort"] (spTold K) := by
  refine Fd.ok scTold (fun vs H Q E h => ?_) (fun cdv A outer s H vs Q E hr h => ?_)
  · obtain ⟨wa, pa, zs, b, rfl, _⟩ := h
    rfl
  · obtain ⟨wa, pa, zs, b, rfl, W, hp, hne, hlen, hw, q⟩ := h
    have nd := scTold.nd
    refine ⟨_, pss_cons (ps_set (i := 3) nd rfl (Or.inl rfl) (pe_df D hr (pa_cons (pv 0) (pa_cons pe_int pa_nil))))
      (pss_cons (ps_if (pt_cmpR op_eq (pv 3) pe_int (nomark _)) (pss_one (ps_ret (pe_tup (pa_cons pe_str pa_nil)))) pss_nil)
      (pss_cons (ps_if (pt_cmpR op_lt (pv 3) pe_int (nomark _)) (pss_one (ps_ret (pe_tup (pa_cons (pe_dget (hu_of hr) (pe_disp (pps_cons pe_str pe_str (pps_cons pe_str pe_str pps_nil)) (by rfl) (by rfl) (fun z => by cases z) (by decide)) (pv 2) (fun _ _ => rfl)) (pa_cons (pe_df C hr (pa_cons (pv 0) (pa_cons (pe_lst (pa_cons pe_str (pa_cons pe_str (pa_cons pe_str pa_nil)))) pa_nil))) pa_nil))))) pss_nil)
      (pss_one (ps_ret (pe_tup (pa_cons pe_str (pa_cons (pe_df L hr (pa_cons (pv 0) (pa_cons (pv 1) pa_nil))) (pa_cons (pe_df C hr (pa_cons (pv 0) (pa_cons (pe_lst (pa_cons pe_int (pa_cons pe_int (pa_cons pe_int (pa_cons pe_int (pa_cons pe_int (pa_cons pe_int pa_nil))))))) pa_nil))) pa_nil)))))))), ?_⟩
    refine ⟨_, rfl, wa, 7, rfl, W, by decide, by decide, fun k G1 k0 k1 W1 s1 => ⟨_, rfl, rfl, _, rfl, ?_⟩⟩
    have hp1 := s1 _ _ (W.ne hp (notSm_strs _)) hp
    generalize decide (V.int k = V.int 0) = c0
    cases c0 with
    | true =>
      refine iteT ⟨(show 1 ≤ sizeLine by decide), fun t ht => ?_⟩
      have s5 := Same.new (o := .tup [.str "gone"]) ht
      exact q _ .gone _ ⟨t, rfl, .of upd_same⟩ trivial (W1.same s5) (fun c o n e => s5 _ _ (s1 c o n e))
    | false =>
      refine iteF ⟨_, rfl, _, _, rfl, rfl, _, rfl, ?_⟩
      by_cases h3 : k < 3
      · rw [decide_eq_true h3]
        refine iteT (fun g hg => ?_)
        refine ⟨upd_same, [(Sum.inr "exact", .str "page"), (Sum.inr "open", .str "section")], rfl, (show 2 ≤ 15 by decide), ?_⟩
        have s3 : Same G1 (upd (upd G1 g (.dK [])) g (.dK (mergeK [] [(Sum.inr "exact", V.str "page"), (Sum.inr "open", V.str "section")]))) := fun c o e => by
          rw [upd_ne (ne_of_none e hg), upd_ne (ne_of_none e hg)]
          exact e
        have dg : DGet (upd (upd G1 g (.dK [])) g (.dK (mergeK [] [(Sum.inr "exact", V.str "page"), (Sum.inr "open", V.str "section")]))) g (.str (sortS b)) (some (.str (ownS b))) := by
          have z := DGet.k (k := Sum.inr (sortS b)) (upd_same (H := upd G1 g (.dK [])) (a := g) (o := .dK (mergeK [] [(Sum.inr "exact", V.str "page"), (Sum.inr "open", V.str "section")])))
          have e : valV (mergeK [] [(Sum.inr "exact", V.str "page"), (Sum.inr "open", V.str "section")]) (Sum.inr (sortS b)) = some (.str (ownS b)) := by cases b <;> decide +kernel
          rw [e] at z
          exact z
        refine ⟨_, rfl, g, _, rfl, dg, _, rfl, (show 3 ≤ sizeLine by decide), fun il hil => ?_⟩
        have W3 := W1.same s3
        have s13 := s1.trans (.of s3)
        generalize upd (upd G1 g (.dK [])) g (.dK (mergeK [] [(Sum.inr "exact", V.str "page"), (Sum.inr "open", V.str "section")])) = G3 at hil W3 s13 ⊢
        have s4 := Same.new (o := .lst ((["p", "q", "r"] : List Str).map V.str)) hil
        refine ⟨wa, il, (["p", "q", "r"] : List Str).map V.str, rfl, W3.same s4, .of upd_same, notSm_strs _, by decide, by decide, fun v G4 hv W4 s5 => ⟨(show 2 ≤ sizeLine by decide), fun t ht => ?_⟩⟩
        obtain ⟨z, hz, rfl⟩ := List.mem_map.mp hv
        have s6 := Same.new (o := .tup [.str (ownS b), .str z]) ht
        exact q _ (.own z) _ ⟨t, rfl, .of upd_same⟩ (wd_pqr hz) (W4.same s6) (fun c o n e => s6 _ _ (s5 c o n (s4 _ _ (s13 c o n e))))
      · rw [decide_eq_false h3]
        refine iteF ⟨_, rfl, _, rfl, wa, pa, zs, rfl, W1, hp1, hne, hlen, fun r ws G2 hr2 hws hl W2 s2 => ?_⟩
        refine ⟨_, rfl, (show 6 ≤ sizeLine by decide), fun il hil => ?_⟩
        have s3 := Same.new (o := .lst (([0, 0, 1, 2, 5, 30] : List Int).map V.int)) hil
        refine ⟨wa, il, ([0, 0, 1, 2, 5, 30] : List Int).map V.int, rfl, W2.same s3, .of upd_same, trivial, by decide, by decide, fun v G4 hv W4 s4 => ⟨(show 3 ≤ sizeLine by decide), fun t ht => ?_⟩⟩
        obtain ⟨m, hm, rfl⟩ := List.mem_map.mp hv
        have hm5 : 0 ≤ m ∧ m ≤ 10000 := by
          simp only [List.mem_cons, List.not_mem_nil, or_false] at hm
          omega
        have s5 := Same.new (o := .tup [.str "to", .ref r, .int m]) ht
        refine q _ (.to ws m) _ ⟨t, r, rfl, .of upd_same, same_T s5 (smT (W2.same s3) s4 (same_T s3 hr2))⟩ ⟨by omega, fun z hz => hw z (hws z hz), hm5.1, hm5.2⟩ (W4.same s5) (fun c o n e => s5 _ _ (s4 c o n (s3 _ _ (s2 c o n (s1 c o n e)))))
end
end K28
namespace K28
open PySem L2 Ld PyProof.Rows
abbrev sRulesOf : Stmt := top 38
def Rl.T3 (r : Rl) : Prop := (∀ z ∈ r.pl, z ∈ tmenu) ∧ r.pl.length ≤ 3
section
variable {P : Program} {w : World} {K : PySem.W.Frag} {mg : Str → Option Value} {base : Heap} {f : Addr} {fd : FuncData}
def RowR (K : PySem.W.Frag) (H : Hp) (x : Rw) (r : Rl) : Prop := x.1 = r.key ∧ RuleAt K H x.2.2 r
/-- the dict of the rules drawn so far -/
def Drawn (P : Program) (w : World) (K : PySem.W.Frag) (H : Hp) (D : Addr) (n : Nat) : Prop := ∃ (rows : List Rw) (rs : List Rl), KD P w K H D rows ∧ rows.length ≤ n ∧ Paired (RowR K H) rows rs ∧ (∀ r ∈ rs, r.Ok ∧ r.T3) ∧ (rs.map Rl.key).Nodup
theorem rows_rules {H : Hp} : ∀ {rows : List Rw} {rs : List Rl}, Paired (RowR K H) rows rs → Rules K H (rows.map (·.2.2)) rs
  | _, _, .nil => .nil
  | _, _, .cons a b => .cons a.2 (rows_rules b)
theorem kGet_not : ∀ {rows : List Rw} {k : NestedKey}, kGet rows k = none → ∀ x ∈ rows, x.1 ≠ k
  | [], _, _, x, h => nomatch h
  | y :: rows, k, e, x, h => by
    rw [kGet_cons] at e
    by_cases hk : y.1 = k
    · rw [if_pos hk] at e
      cases e
    · rw [if_neg hk] at e
      rcases List.mem_cons.mp h with z | h
      · rw [z]
        exact hk
      · exact kGet_not e x h
theorem row_key {H : Hp} : ∀ {rows : List Rw} {rs : List Rl}, Paired (RowR K H) rows rs → ∀ r ∈ rs, ∃ x ∈ rows, x.1 = r.key
  | _, _, .nil, r, h => nomatch h
  | _, _, .cons a b, r, h => by
    rcases List.mem_cons.mp h with z | h
    · rw [z]
      exact ⟨_, List.mem_cons_self, a.1⟩
    · obtain ⟨x, h1, h2⟩ := row_key b r h
      exact ⟨x, List.mem_cons_of_mem _ h1, h2⟩
def putR (r : Rl) (t : Rl) : Rl := if t.key = r.key then r else t
theorem putR_key (r t : Rl) : (putR r t).key = t.key := by
  unfold putR
  by_cases h : t.key = r.key
  · rw [if_pos h, h]
  · rw [if_neg h]
theorem rows_setR {H : Hp} {r : Rl} {v : V} (hv : RuleAt K H v r) : ∀ {rows : List Rw} {rs : List Rl}, Paired (RowR K H) rows rs → Paired (RowR K H) (rows.map (kSet r.key v)) (rs.map (putR r))
  | _, _, .nil => .nil
  | _, _, .cons (a := x) (b := t) a b => by
    refine .cons ?_ (rows_setR hv b)
    obtain ⟨a1, a2⟩ := a
    unfold kSet putR
    by_cases h : x.1 = r.key
    · rw [if_pos h, if_pos (a1 ▸ h)]
      exact ⟨h, hv⟩
    · rw [if_neg h, if_neg (a1 ▸ h)]
      exact ⟨a1, a2⟩
theorem RowR.mono {H H' : Hp} {x : Rw} {r : Rl} (z : RowR K H x r) (hT : ∀ a xs, SqT K H a xs → SqT K H' a xs) : RowR K H' x r := ⟨z.1, z.2.mono hT⟩
theorem Drawn.put {G : Hp} {D u : Addr} {n : Nat} {rows : List Rw} {rs : List Rl} {r : Rl} {v : V} (kd : KD P w K G D rows) (few : rows.length ≤ n) (n9 : n ≤ 900) (pr : Paired (RowR K G) rows rs) (ok : ∀ t ∈ rs, t.Ok ∧ t.T3) (one : (rs.map Rl.key).Nodup) (hr : r.Ok ∧ r.T3) (hv : RuleAt K G v r) (hk : NIs K G r.key (.ref u)) :
    Drawn P w K (upd G D (kdO P w D (kPut rows r.key u v))) D (n + 1) := by
  have hT : ∀ b ys, SqT K G b ys → SqT K (upd G D (kdO P w D (kPut rows r.key u v))) b ys := fun b ys z => sqT_kd kd.at_ z
  have ln := pr.length
  have l2 := kPut_len rows r.key u v
  by_cases h : (kGet rows r.key).isSome = true
  · have e : kPut rows r.key u v = rows.map (kSet r.key v) := by
      unfold kPut
      rw [if_pos h]
    refine ⟨_, rs.map (putR r), ⟨upd_same, kd.low, by omega, fun x hx => ?_⟩, by omega, ?_, fun t ht => ?_, ?_⟩
    · rw [e] at hx
      obtain ⟨y, hy, rfl⟩ := List.mem_map.mp hx
      have z := kd.key y hy
      unfold kSet
      split
      · exact ⟨nis_mono hT z.1, z.2⟩
      · exact ⟨nis_mono hT z.1, z.2⟩
    · have p2 := rows_setR hv pr
      rw [← e] at p2
      exact Paired.mono (fun _ _ z => z.mono hT) p2
    · obtain ⟨t', h1, rfl⟩ := List.mem_map.mp ht
      unfold putR
      split
      · exact hr
      · exact ok t' h1
    · rw [List.map_map]
      have e2 : (Rl.key ∘ putR r) = Rl.key := funext fun t => putR_key r t
      rw [e2]
      exact one
  · have hn : kGet rows r.key = none := by
      cases q : kGet rows r.key with
      | none => rfl
      | some _ => rw [q] at h; exact absurd rfl h
    have e : kPut rows r.key u v = rows ++ [(r.key, u, v)] := by
      unfold kPut
      rw [if_neg h]
    refine ⟨_, rs ++ [r], ⟨upd_same, kd.low, by omega, fun x hx => ?_⟩, by omega, ?_, fun t ht => ?_, ?_⟩
    · rw [e] at hx
      rcases List.mem_append.mp hx with hx | hx
      · exact ⟨nis_mono hT (kd.key x hx).1, (kd.key x hx).2⟩
      · rw [List.mem_singleton.mp hx]
        exact ⟨nis_mono hT hk, key_deep _ _⟩
    · have p1 : Paired (RowR K G) (rows ++ [(r.key, u, v)]) (rs ++ [r]) := pr.snoc ⟨rfl, hv⟩
      rw [← e] at p1
      exact Paired.mono (fun _ _ z => z.mono hT) p1
    · rcases List.mem_append.mp ht with ht | ht
      · exact ok t ht
      · rw [List.mem_singleton.mp ht]
        exact hr
    · rw [List.map_append, List.nodup_append]
      refine ⟨one, by simp, fun x hx y hy e2 => ?_⟩
      obtain ⟨t, ht, rfl⟩ := List.mem_map.mp hx
      have ey : y = r.key := by simpa using hy
      obtain ⟨x, hx2, ex⟩ := row_key pr t ht
      exact kGet_not hn x hx2 (ex.trans (e2.trans ey))
theorem nis_key2 {H : Hp} {u p : Addr} {b : Bool} {ws : List Str} {an : An} (h : SqT K H u [.str (sortS b), .ref p]) (h2 : SqT K H p (ws.map V.str)) : NIs K H (Rl.key ⟨b, ws, an⟩) (.ref u) := nis_key h h2
theorem kd_sm {H H' : Hp} {wa DD : Addr} {rows : List Rw} (kd : KD P w K H DD rows) (n : DD ≠ wa) (W : Sm H wa) (s : Sb wa H H') : KD P w K H' DD rows :=
  ⟨s _ _ n kd.at_, kd.low, kd.few, fun x hx => ⟨nis_mono (fun _ _ z => smT W s z) (kd.key x hx).1, (kd.key x hx).2⟩⟩
def spRulesOf (P : Program) (w : World) (K : PySem.W.Frag) : Sp := fun vs H Q _ => ∃ (wa pa : Addr) (zs : List Str) (n : Nat), vs = [.ref wa, .ref pa, .int (n : Int)] ∧ n ≤ 8 ∧ Sm H wa ∧ H pa = some (.lst (zs.map V.str)) ∧ zs ≠ [] ∧ zs.length ≤ 50 ∧ (∀ z ∈ zs, z ∈ tmenu) ∧
  ∀ (l : Addr) (xs : List V) (rs : List Rl) (H' : Hp), H' l = some (.lst xs) → Rules K H' xs rs → Good rs → (∀ r ∈ rs, r.T3) → rs.length ≤ n → Sm H' wa → Sb wa H H' → H l = none → Q (.ref l) H'
def rlsN : List Str := ["_law_stream_here", "_law_words_here", "_law_most", "_law_found", "_law_turn", "_law_sort", "_law_place_here"]
theorem scRulesOf : FnScope rlsN ["_law_stream_here", "_law_words_here", "_law_most"] (defScope sRulesOf) := ⟨rfl, rfl, rfl, by decide +kernel, rfl, by decide +kernel, by decide +kernel⟩
theorem sort_in {v : V} (h : v ∈ [V.str "exact", V.str "open", V.str "open"]) : ∃ b, v = V.str (sortS b) := by
  simp only [List.mem_cons, List.not_mem_nil, or_false] at h
  rcases h with rfl | rfl | rfl
  · exact ⟨true, rfl⟩
  · exact ⟨false, rfl⟩
  · exact ⟨false, rfl⟩
theorem ok_rulesOf (Fd : Fun K "_law_rules" "_law_rules" sRulesOf f fd) (T : Tx mg) (D : Df P w K mg base 1 "_law_draw" ["_law_stream_here", "_law_size"] spDraw) (C : Df P w K mg base 2 "_law_choose" ["_law_stream_here", "_law_items"] (spChoose K))
    (L : Df P w K mg base 3 "_law_place" ["_law_stream_here", "_law_words_here"] (spPlaceOf K)) (Y : Df P w K mg base 4 "_law_told" ["_law_stream_here", "_law_words_here", "_law_sort"] (spTold K)) : FnOk P w K mg base CX0 5 f fd ["_law_stream_here", "_law_words_here", "_law_most"] (spRulesOf P w K) := by
  refine Fd.ok scRulesOf (fun vs H Q E h => ?_) (fun cdv A outer s H vs Q E hr h => ?_)
  · obtain ⟨wa, pa, zs, n, rfl, _⟩ := h
    rfl
  · obtain ⟨wa, pa, zs, n, rfl, hn8, W, hp, hne, hlen, hm, q⟩ := h
    have nd := scRulesOf.nd
    have hu16 : (A.deeper (envOfC "_law_rules" (defScope sRulesOf) s.heap.objs.size f cdv)).units + 16 < cLine := Nat.lt_of_le_of_lt (Nat.add_le_add_left (by decide) _) hr.units
    refine ⟨_, pss_cons (ps_set (i := 3) nd rfl (Or.inl rfl) pe_dnewN)
      (pss_cons (ps_for PassesOwn.never rfl (pi_range1 rfl T.range (pa_cons (pe_df D hr (pa_cons (pv 0) (pa_cons (pe_op op_add (pv 2) pe_int) pa_nil))) pa_nil)) (pg_name (i := 4) nd rfl (Or.inl rfl))
        (pss_cons (ps_par (i := 5) (j := 6) (by rfl) nd rfl rfl (by decide) rfl rfl (pa_cons (pe_df C hr (pa_cons (pv 0) (pa_cons (pe_lst (pa_cons pe_str (pa_cons pe_str (pa_cons pe_str pa_nil)))) pa_nil))) (pa_cons (pe_df L hr (pa_cons (pv 0) (pa_cons (pv 1) pa_nil))) pa_nil)) (by rfl))
        (pss_one (ps_asg (pe_tup (pa_cons (pv 5) (pa_cons (pv 6) (pa_cons (pe_df Y hr (pa_cons (pv 0) (pa_cons (pv 1) (pa_cons (pv 5) pa_nil)))) pa_nil)))) (pg_sub (pv 3) (pe_tup (pa_cons (pv 5) (pa_cons (pv 6) pa_nil))) (pset_kd hu16))))))
      (pss_one (ps_ret (pe_listVals (by rfl) (by rfl) T.list (pv 3))))), ?_⟩
    refine fun DD hD low => ?_
    have s0 := Same.new (o := kdO P w DD []) hD
    have nDw : DD ≠ wa := fun e => by
      obtain ⟨d, mm, h1, _⟩ := W
      rw [e, h1] at hD
      cases hD
    refine ⟨_, rfl, _, rfl, _, _, rfl, rfl, wa, (n : Int) + 1, rfl, W.same s0, by omega, by omega, fun k G4 k0 k1 W4 s4 => ⟨k, rfl, by omega, by omega, ?_⟩⟩
    have d0 : Drawn P w K G4 DD 0 := ⟨[], [], ⟨s4 DD _ nDw upd_same, low, Nat.zero_le _, fun x hx => nomatch hx⟩, Nat.le_refl _, .nil, (fun r hr => nomatch hr), List.Pairwise.nil⟩
    refine for_range (lo := 0) (n := k.toNat) (fun i σ G => Sb wa H G ∧ Sm G wa ∧ Drawn P w K G DD i ∧ ∃ u4 u5 u6, σ = [some (.ref wa), some (.ref pa), some (.int (n : Int)), some (.ref DD), u4, u5, u6]) ⟨(Sb.of s0).trans s4, W4, d0, _, _, _, rfl⟩ ?_ ?_
    · rintro i σ G hi ⟨sG, WG, ⟨rows, rs, kd, few, pr, ok, one⟩, u4, u5, u6, rfl⟩
      refine ⟨_, rfl, (show 3 ≤ sizeLine by decide), fun il hil => ?_⟩
      have s1 := Same.new (o := .lst [V.str "exact", V.str "open", V.str "open"]) hil
      refine ⟨wa, il, [V.str "exact", V.str "open", V.str "open"], rfl, WG.same s1, .of upd_same, trivial, by simp, (show 3 ≤ 1000 by decide), fun v G5 hv W5 s5 => ?_⟩
      obtain ⟨b, rfl⟩ := sort_in hv
      have s15 : Sb wa G G5 := (Sb.of s1).trans s5
      have hpG := sG _ _ (W.ne hp (notSm_strs _)) hp
      have hp5 := s15 _ _ (WG.ne hpG (notSm_strs _)) hpG
      refine ⟨_, rfl, _, rfl, wa, pa, zs, rfl, W5, hp5, hne, hlen, fun rp ws G6 hrp hws hl W6 s6 => ⟨_, _, rfl, ?_⟩⟩
      have hp6 := s6 _ _ (W5.ne hp5 (notSm_strs _)) hp5
      refine ⟨_, rfl, _, rfl, _, rfl, _, rfl, _, rfl, wa, pa, zs, b, rfl, W6, hp6, hne, hlen, (fun z hz => wdt (hm z hz)), fun v an G7 hv7 hok W7 s7 => ⟨(show 3 ≤ sizeLine by decide), fun t ht => ?_⟩⟩
      have s57 : Sb wa G G7 := s15.trans (s6.trans s7)
      have s8 := Same.new (o := .tup [.str (sortS b), .ref rp, v]) ht
      have rv8 : RuleAt K (upd G7 t (.tup [.str (sortS b), .ref rp, v])) (.ref t) ⟨b, ws, an⟩ := ⟨t, rp, v, rfl, .of upd_same, same_T s8 (smT W6 s7 hrp), hv7.mono fun _ _ q => same_T s8 q⟩
      have hrp8 := same_T s8 (smT W6 s7 hrp)
      have W8 := W7.same s8
      have s58 := s57.trans (.of s8)
      generalize upd G7 t (.tup [.str (sortS b), .ref rp, v]) = G8 at rv8 hrp8 W8 s58 ⊢
      refine ⟨_, rfl, _, rfl, _, rfl, (show 2 ≤ sizeLine by decide), fun u hu => ?_⟩
      have s9 := Same.new (o := .tup [.str (sortS b), .ref rp]) hu
      have pr9 : Paired (RowR K (upd G8 u (.tup [.str (sortS b), .ref rp]))) rows rs := Paired.mono (fun _ _ z => z.mono fun _ _ q => same_T s9 (smT WG s58 q)) pr
      have kd9 := (kd_sm kd nDw WG s58).same s9
      have hk9 : NIs K (upd G8 u (.tup [.str (sortS b), .ref rp])) (Rl.key ⟨b, ws, an⟩) (.ref u) := nis_key2 (.of upd_same) (same_T s9 hrp8)
      have rv9 := rv8.same s9
      have W9 := W8.same s9
      have sG9 := sG.trans (s58.trans (.of s9))
      generalize upd G8 u (.tup [.str (sortS b), .ref rp]) = G9 at pr9 kd9 hk9 rv9 W9 sG9 ⊢
      have rok : (⟨b, ws, an⟩ : Rl).Ok := ⟨Nat.le_trans hl (by decide), fun z hz => wdt (hm z (hws z hz)), hok⟩
      have rt : (⟨b, ws, an⟩ : Rl).T3 := ⟨fun z hz => hm z (hws z hz), hl⟩
      refine ⟨u, DD, Rl.key ⟨b, ws, an⟩, rows, rfl, rfl, hk9, key_deep _ _, kd9, fun c o nc e => ?_, ?_, Drawn.put (r := ⟨b, ws, an⟩) kd9 few (by omega) pr9 ok one ⟨rok, rt⟩ rv9 hk9, _, _, _, rfl⟩
      · exact (upd_ne (ne_of_none e hD)).trans (sG9 c o nc e)
      · obtain ⟨d, mm, h1, h2⟩ := W9
        exact ⟨d, mm, (upd_ne nDw.symm).trans h1, h2⟩
    · rintro σ G ⟨sG, WG, ⟨rows, rs, kd, few, pr, ok, one⟩, u4, u5, u6, rfl⟩
      have ln := pr.length
      refine ⟨_, rfl, DD, rows, rfl, kd, fun l hl nl => ?_⟩
      have s6 := Same.new (o := .lst (rows.map (·.2.2))) hl
      refine q l _ rs _ upd_same ((rows_rules pr).same s6) ⟨fun r h => (ok r h).1, by omega, one⟩ (fun r h => (ok r h).2) (by omega) (WG.same s6) (sG.trans (.of s6)) ?_
      cases e : H l with
      | none => rfl
      | some o =>
        by_cases nl2 : l = wa
        · obtain ⟨d, mm, h1, _⟩ := WG
          rw [nl2, h1] at hl
          cases hl
        · rw [sG l o nl2 e] at hl
          cases hl
end
end K28
namespace K28
open PySem L2 Ld PyProof.Rows
abbrev sLA : Stmt := top 39
/-! ### the rule for an address, in any sequence of the rules -/
theorem key_is {r : Rl} {b : Bool} {ws : List Str} : r.key = kOf b ws ↔ r.ex = b ∧ r.pl = ws := by
  constructor
  · intro h
    exact key_inj (a := r) (b := ⟨b, ws, .gone⟩) h
  · rintro ⟨h1, h2⟩
    unfold Rl.key
    rw [h1, h2]
theorem findK_some {rs : List Rl} (one : (rs.map Rl.key).Nodup) {b : Bool} {ws : List Str} {r : Rl} (h : r ∈ rs) (e : r.ex = b) (p : r.pl = ws) : findK rs (b, ws) = some r := by
  cases f : findK rs (b, ws) with
  | none => exact absurd (decide_eq_true (key_is.mpr ⟨e, p⟩)) (List.find?_eq_none.mp f r h)
  | some t =>
    have m := List.mem_of_find?_eq_some f
    have kt : t.key = kOf b ws := of_decide_eq_true (List.find?_some (p := fun r : Rl => decide (r.key = kOf b ws)) f)
    have k := key_is.mp kt
    rw [nodup_key one m h ⟨k.1.trans e.symm, k.2.trans p.symm⟩]
theorem findK_none {rs : List Rl} {b : Bool} {ws : List Str} (h : ∀ r ∈ rs, ¬ (r.ex = b ∧ r.pl = ws)) : findK rs (b, ws) = none :=
  List.find?_eq_none.mpr fun r hr e => h r hr (key_is.mp (of_decide_eq_true e))
theorem findK_of {rs : List Rl} {b : Bool} {ws : List Str} {r : Rl} (f : findK rs (b, ws) = some r) : r ∈ rs ∧ r.ex = b ∧ r.pl = ws :=
  ⟨List.mem_of_find?_eq_some f, key_is.mp (of_decide_eq_true (List.find?_some (p := fun r : Rl => decide (r.key = kOf b ws)) f))⟩
theorem findK_perm {rs ts : List Rl} (p : rs.Perm ts) (one : (rs.map Rl.key).Nodup) (k : Bool × List Str) : findK rs k = findK ts k := by
  have one2 : (ts.map Rl.key).Nodup := (p.map Rl.key).nodup_iff.mp one
  cases f : findK ts k with
  | none =>
    refine findK_none fun r hr e => ?_
    rw [findK_some one2 (p.mem_iff.mp hr) e.1 e.2] at f
    cases f
  | some r =>
    obtain ⟨h, e, q⟩ := findK_of f
    exact findK_some one (p.mem_iff.mpr h) e q
theorem openFor_perm {rs ts : List Rl} (p : rs.Perm ts) (one : (rs.map Rl.key).Nodup) (ws : List Str) : ∀ n, openFor rs ws n = openFor ts ws n
  | 0 => findK_perm p one _
  | n + 1 => by
    unfold openFor
    rw [findK_perm p one, openFor_perm p one ws n]
theorem ruleFor_perm {rs ts : List Rl} (p : rs.Perm ts) (one : (rs.map Rl.key).Nodup) (ws : List Str) : ruleFor rs ws = ruleFor ts ws := by
  unfold ruleFor
  rw [findK_perm p one, openFor_perm p one]
theorem answer_sort {rs : List Rl} (g : Good rs) (ws : List Str) : answerOf (sortR rs) ws = answerOf rs ws := by
  unfold answerOf
  rw [ruleFor_perm (sortR_perm rs) (g.sort).one]
/-! ### the best rule, by rank -/
def Fit (ws : List Str) (r : Rl) : Prop := (r.ex = true ∧ r.pl = ws) ∨ (r.ex = false ∧ ws.take r.pl.length = r.pl)
def rkE (r : Rl) : Int := if r.ex = true then 1 else 0
/-- of lower rank, or of the same -/
def RkLe (t r : Rl) : Prop := rkE t < rkE r ∨ (rkE t = rkE r ∧ t.pl.length ≤ r.pl.length)
instance (t r : Rl) : Decidable (RkLe t r) := by unfold RkLe; infer_instance
structure Best (ws : List Str) (seen : List Rl) (o : Option Rl) : Prop where
  no : o = none → ∀ t ∈ seen, ¬ Fit ws t
  yes : ∀ r, o = some r → r ∈ seen ∧ Fit ws r ∧ ∀ t ∈ seen, Fit ws t → RkLe t r
theorem best_rule {rs : List Rl} (one : (rs.map Rl.key).Nodup) {ws : List Str} {o : Option Rl} (B : Best ws rs o) : ruleFor rs ws = o := by
  unfold ruleFor
  cases o with
  | none =>
    have h := B.no rfl
    rw [findK_none fun r hr e => h r hr (.inl e), Option.none_or]
    exact openFor_none _ fun j hj => findK_none fun r hr e => h r hr (.inr ⟨e.1, by rw [e.2, List.length_take, Nat.min_eq_left hj]⟩)
  | some r =>
    obtain ⟨hr, fit, most⟩ := B.yes r rfl
    rcases fit with ⟨e, p⟩ | ⟨e, p⟩
    · rw [findK_some one hr e p]
      rfl
    · have ne : findK rs (true, ws) = none := findK_none fun t ht c => by
        have := most t ht (.inl c)
        unfold RkLe rkE at this
        rw [c.1, e] at this
        simp at this
      rw [ne, Option.none_or]
      have lp := congrArg List.length p
      rw [List.length_take] at lp
      refine openFor_some (k := r.pl.length) (findK_some one hr e p.symm) _ (by omega) fun j h1 h2 => findK_none fun t ht c => ?_
      have l : t.pl.length = j := by rw [c.2, List.length_take, Nat.min_eq_left h2]
      have := most t ht (.inr ⟨c.1, by rw [l]; exact c.2.symm⟩)
      unfold RkLe rkE at this
      rw [c.1, e] at this
      simp at this
      omega
theorem Best.skip {ws : List Str} {seen : List Rl} {o : Option Rl} {r : Rl} (B : Best ws seen o) (h : ¬ Fit ws r ∨ ∃ y, o = some y ∧ RkLe r y) : Best ws (seen ++ [r]) o := by
  refine ⟨fun e t ht => ?_, fun x e => ?_⟩
  · subst e
    rcases List.mem_append.mp ht with ht | ht
    · exact B.no rfl t ht
    · rw [List.mem_singleton.mp ht]
      rcases h with h | ⟨y, h, _⟩
      · exact h
      · cases h
  · subst e
    obtain ⟨h1, h2, h3⟩ := B.yes x rfl
    refine ⟨List.mem_append_left _ h1, h2, fun t ht ft => ?_⟩
    rcases List.mem_append.mp ht with ht | ht
    · exact h3 t ht ft
    · rw [List.mem_singleton.mp ht] at ft ⊢
      rcases h with h | ⟨y, h, q⟩
      · exact absurd ft h
      · cases h
        exact q
theorem RkLe.of_not {a b : Rl} (h : ¬ RkLe a b) : RkLe b a := by
  unfold RkLe at *
  omega
theorem RkLe.trans {a b c : Rl} (h1 : RkLe a b) (h2 : RkLe b c) : RkLe a c := by
  unfold RkLe at *
  omega
theorem Best.take {ws : List Str} {seen : List Rl} {o : Option Rl} {r : Rl} (B : Best ws seen o) (f : Fit ws r) (h : ∀ y, o = some y → RkLe y r) : Best ws (seen ++ [r]) (some r) := by
  refine ⟨fun e => (by cases e), fun x e => ?_⟩
  cases e
  refine ⟨List.mem_append_right _ List.mem_cons_self, f, fun t ht ft => ?_⟩
  rcases List.mem_append.mp ht with ht | ht
  · cases o with
    | none => exact absurd ft (B.no rfl t ht)
    | some y => exact ((B.yes y rfl).2.2 t ht ft).trans (h y rfl)
  · rw [List.mem_singleton.mp ht]
    exact .inr ⟨rfl, Nat.le_refl _⟩
def rkD (r : Rl) : PyData := .tuple [.int (rkE r), .int (r.pl.length : Int)]
theorem rk_lt (r y : Rl) : PySem.W.dataLt (rkD y) (rkD r) = decide (¬ RkLe r y) := by
  unfold rkD
  rw [PySem.W.dataLt_tuple]
  by_cases e : rkE y = rkE r
  · rw [e, PySem.W.dataLt_all_yes rfl (by simp [PyData.eqv])]
    by_cases l : y.pl.length = r.pl.length
    · rw [l, PySem.W.dataLt_all_yes rfl (by simp [PyData.eqv])]
      have : RkLe r y := .inr ⟨e.symm, by omega⟩
      rw [decide_eq_false (fun h => h this)]
      rfl
    · rw [PySem.W.dataLt_all_no rfl (by simp [PyData.eqv]; omega), PySem.W.dataLt_int]
      unfold RkLe
      refine decide_eq_decide.mpr ?_
      omega
  · rw [PySem.W.dataLt_all_no rfl (by simp [PyData.eqv]; exact e), PySem.W.dataLt_int]
    unfold RkLe
    refine decide_eq_decide.mpr ?_
    omega
/-- a > b of data that is alike -/
def rGtD (K : PySem.W.Frag) : R2 := fun x y H Q => ∃ d e, Dp K H x d ∧ Dp K H y e ∧ PySem.W.alike d e = true ∧ d ≠ .none ∧ d.depth ≤ 64 ∧ Q (.bl (PySem.W.dataLt e d)) H
theorem op_gtD {X : Cx} (hu : X.A.units + 64 < cLine) : OpR X (compareOp .Gt) (rGtD X.K) := by
  intro pins s σ H x y v u Q I rx ry ⟨d, e, hd, he, ha, hn, hp, q⟩
  obtain ⟨as, r1⟩ := dp_reads I.hok I.kIn d x v hd rx
  obtain ⟨bs, r2⟩ := dp_reads I.hok I.kIn e y u he ry
  exact PySem.W.gt_data r1 r2 ha hn (Nat.lt_of_le_of_lt (Nat.add_le_add_left (Nat.le_trans (Nat.min_le_left _ _) hp) _) hu) ⟨.bl _, H, I, rfl, q⟩
theorem cutV_tail (x y z : V) : cutV [x, y, z] (some 1) none = [y, z] := by
  unfold cutV
  rw [HT.sIx_none, show (1 : Int) = ((1 : Nat) : Int) from rfl, HT.sIx_nat]
  rfl
section
variable {P : Program} {w : World} {K : PySem.W.Frag} {mg : Str → Option Value} {base : Heap} {f : Addr} {fd : FuncData}
/-- the best so far: None, or its rank, place and answer -/
def BestAt (K : PySem.W.Frag) (H : Hp) (v : V) : Option Rl → Prop
  | none => v = .non
  | some r => ∃ b k p a, v = .ref b ∧ SqT K H b [.ref k, .ref p, a] ∧ SqT K H k [.int (rkE r), .int (r.pl.length : Int)] ∧ SqT K H p (r.pl.map V.str) ∧ AnAt K H a r.ex r.an
theorem BestAt.same {H H' : Hp} {v : V} {o : Option Rl} (z : BestAt K H v o) (s : Same H H') : BestAt K H' v o := by
  cases o with
  | none => exact z
  | some r => exact let ⟨b, k, p, a, e, h1, h2, h3, h4⟩ := z; ⟨b, k, p, a, e, same_T s h1, same_T s h2, same_T s h3, h4.mono fun _ _ q => same_T s q⟩
def spLA (K : PySem.W.Frag) : Sp := fun vs H Q _ => ∃ (l a : Addr) (xs : List V) (rs : List Rl) (ws : List Str), vs = [.ref l, .ref a] ∧ SqL K H l xs ∧ Rules K H xs rs ∧ Good rs ∧ SqT K H a (ws.map V.str) ∧ ws.length ≤ 900 ∧ LowW ws ∧
  ∀ v H', Same H H' → Dp K H' v (answerOf rs ws) → Q v H'
instance (ws : List Str) (r : Rl) : Decidable (Fit ws r) := by unfold Fit; infer_instance
/-- whether the rule covers the address -/
def tFitI (K : PySem.W.Frag) : TE := fun σ H Q => ∃ (a p : Addr) (r : Rl) (ws : List Str), σ[1]? = some (some (.ref a)) ∧ σ[3]? = some (some (.str (sortS r.ex))) ∧ σ[4]? = some (some (.ref p)) ∧ SqT K H a (ws.map V.str) ∧ SqT K H p (r.pl.map V.str) ∧
  SeqAt.shaped (wt ws) = true ∧ SeqAt.shaped (wt r.pl) = true ∧ LowW ws ∧ ∀ H', Same H H' → Q (.bl (decide (Fit ws r))) H'
def laN : List Str := ["_law_rules_here", "_law_address", "_law_best", "_law_sort", "_law_place_here", "_law_answer_here", "_law_fit", "_law_rank", "_law_rest"]
theorem scLA : FnScope laN ["_law_rules_here", "_law_address"] (defScope sLA) := ⟨rfl, rfl, rfl, by decide +kernel, rfl, by decide +kernel, by decide +kernel⟩
theorem ok_la (Fd : Fun K "_law_answer" "_law_answer" sLA f fd) (T : Tx mg) : FnOk P w K mg base CX0 1 f fd ["_law_rules_here", "_law_address"] (spLA K) := by
  refine Fd.ok scLA (fun vs H Q E h => ?_) (fun cdv A outer s H vs Q E hr h => ?_)
  · obtain ⟨l, a, xs, rs, ws, rfl, _⟩ := h
    rfl
  · obtain ⟨l, a, xs, rs, ws, rfl, hl, hR, g, ha, hw, low, q⟩ := h
    have nd := scLA.nd
    refine ⟨_, pss_cons (ps_set (i := 2) nd rfl (Or.inl rfl) pe_non)
      (pss_cons (ps_for PassesOwn.never rfl (pi_list (pv 0)) (pg_tup rfl (pgs_cons (pg_name (i := 3) nd rfl (Or.inl rfl)) (pgs_cons (pg_name (i := 4) nd rfl (Or.inl rfl)) (pgs_cons (pg_name (i := 5) nd rfl (Or.inl rfl)) pgs_nil))))
        (pss_cons (ps_set (i := 6) nd rfl (Or.inl rfl) (PE.conv (t := tFitI K) (pe_ifExp (pt_cmpR op_eq (pv 3) pe_str (nomark _)) (pe_cmpR (op_eqD hr.units) (pv 1) (pv 4) (nomark _)) (pe_cmpR (op_eqD hr.units) (pe_slice (r := rSlW K) sl_tupK (pv 1) po_none (po_some (pe_callB call_len_seq (by rfl) T.len PySem.boot_len (pa_cons (pv 4) pa_nil)))) (pv 4) (nomark _))) ?cF))
        (pss_cons (ps_set (i := 7) nd rfl (Or.inl rfl) (pe_tup (pa_cons (pe_callTy call_int1 (by rfl) T.int (by decide +kernel) (pa_cons (pe_cmpR op_eq (pv 3) pe_str (nomark _)) pa_nil)) (pa_cons (pe_callB call_len_seq (by rfl) T.len PySem.boot_len (pa_cons (pv 4) pa_nil)) pa_nil))))
        (pss_one (ps_if (PW.pt (pw_and (pt_val (pv 6)) (pw_and1 (PW.pt (pw_or (pt_cmp (pc_isN (pv 2))) (pw_or1 (pt_cmpR (op_gtD hr.units) (pv 7) (pe_ix ix_tup (pv 2) pe_int (fun _ _ => rfl)) (nomark _))))))))
          (pss_one (ps_set (i := 2) nd rfl (Or.inl rfl) (pe_tup (pa_cons (pv 7) (pa_cons (pv 4) (pa_cons (pv 5) pa_nil)))))) pss_nil)))))
      (pss_cons (ps_if (pt_cmp (pc_isN (pv 2))) (pss_one (ps_ret (pe_tup (pa_cons pe_str pa_nil)))) pss_nil)
      (pss_cons (ps_asg (pe_slice (r := rSlW K) sl_tupK (pv 2) (po_some pe_int) po_none) (pg_tup rfl (pgs_cons (pg_name (i := 4) nd rfl (Or.inl rfl)) (pgs_cons (pg_name (i := 5) nd rfl (Or.inl rfl)) pgs_nil))))
      (pss_cons (ps_set (i := 8) nd rfl (Or.inl rfl) (pe_slice (r := rSlW K) sl_tupK (pv 1) (po_some (pe_callB call_len_seq (by rfl) T.len PySem.boot_len (pa_cons (pv 4) pa_nil))) po_none))
      (pss_cons (ps_if (pt_cmpR op_eq (pe_ix ix_tup (pv 5) pe_int (fun _ _ => rfl)) pe_str (nomark _)) (pss_one (ps_ret (pe_tup (pa_cons pe_str (pa_cons (pe_ix ix_tup (pv 5) pe_int (fun _ _ => rfl)) (pa_cons (pv 8) pa_nil)))))) pss_nil)
      (pss_one (ps_ret (pe_ifExp (pt_cmpR op_eq (pe_ix ix_tup (pv 5) pe_int (fun _ _ => rfl)) pe_str (nomark _))
        (pe_tup (pa_cons pe_str (pa_cons (pe_op op_catW (pe_ix ix_tup (pv 5) pe_int (fun _ _ => rfl)) (pv 8)) (pa_cons (pe_ix ix_tup (pv 5) pe_int (fun _ _ => rfl)) pa_nil)))) (pv 5))))))))), ?_⟩
    case cF =>
      rintro σ H Q ⟨a, p, r, ws, e1, e3, e4, ha, hp, shW, shP, low, q⟩
      refine ⟨_, e3, rfl, _, rfl, ?_⟩
      cases hex : r.ex with
      | true =>
        rw [show decide (V.str (sortS true) = V.str "exact") = true by decide +kernel]
        refine iteT ⟨_, e1, _, e4, _, _, dp_wt ha, dp_wt hp, shW, shP, ?_⟩
        rw [eqv_wt]
        have := q H (Same.refl H)
        rwa [show decide (Fit ws r) = decide (ws = r.pl) by
          refine decide_eq_decide.mpr ?_
          unfold Fit
          rw [hex]
          simp [eq_comm]] at this
      | false =>
        rw [show decide (V.str (sortS false) = V.str "exact") = false by decide +kernel]
        refine iteF ⟨_, e1, _, e4, p, _, rfl, .inr hp, _, rfl, a, _, rfl, ha, fun b G3 s3 hb => ?_⟩
        rw [List.length_map, cut_lo] at hb
        have shT : SeqAt.shaped (wt (ws.take r.pl.length)) = true := shaped_wt fun z hz => low z (List.mem_of_mem_take hz)
        refine ⟨_, e4, _, _, dp_wt hb, dp_wt (same_T s3 hp), shT, shP, ?_⟩
        rw [eqv_wt]
        have := q G3 s3
        rwa [show decide (Fit ws r) = decide (ws.take r.pl.length = r.pl) by
          refine decide_eq_decide.mpr ?_
          unfold Fit
          rw [hex]
          simp] at this
    have shW : SeqAt.shaped (wt ws) = true := shaped_wt low
    have shP : ∀ r ∈ rs, SeqAt.shaped (wt r.pl) = true := fun r hr => shaped_wt fun z hz => ((g.ok r hr).wds z hz).low
    refine ⟨_, rfl, l, rfl, ⟨_, hl⟩, for_list (K := K) (a := l) (xs := xs) (fun i σ G => Same H G ∧ ∃ u3 u4 u5 u6 u7 v o, σ = [some (.ref l), some (.ref a), some v, u3, u4, u5, u6, u7, none] ∧ Best ws (rs.take i) o ∧ BestAt K G v o)
      ⟨Same.refl H, _, _, _, _, _, _, none, rfl, ⟨(fun _ t h => nomatch h), (fun r e => nomatch e)⟩, rfl⟩ (fun i σ G _ h => h.1.seq hl) ?_ ?_⟩
    · rintro i x σ G hx ⟨s0, u3, u4, u5, u6, u7, v, o, rfl, B, bv⟩
      obtain ⟨r, er, ra, rp, rx, rfl, t1, t2, t3⟩ := hR.get hx
      have hmem := List.mem_of_getElem? er
      have ok := g.ok r hmem
      have tk : rs.take (i + 1) = rs.take i ++ [r] := by
        rw [List.take_add_one, er]
        rfl
      rw [tk]
      refine ⟨ra, _, rfl, same_T s0 t1, rfl, _, _, rfl, _, _, rfl, _, _, rfl, rfl, ?_⟩
      have lm : (r.pl.map V.str).length = r.pl.length := List.length_map ..
      refine ⟨a, rp, r, ws, rfl, rfl, rfl, same_T s0 ha, same_T s0 t2, shW, shP r hmem, low, fun G2 sB => ?_⟩
      have s02 := s0.trans sB
      refine ⟨_, rfl, rfl, .inr ⟨_, rfl, ?_⟩⟩
      rw [show decide (V.str (sortS r.ex) = V.str "exact") = r.ex by cases r.ex <;> decide +kernel]
      refine ⟨_, rfl, rp, _, rfl, .inr (same_T s02 t2), (show 2 ≤ sizeLine by decide), fun k hk => ?_⟩
      rw [lm]
      have s3 := Same.new (o := .tup [V.int (if r.ex = true then 1 else 0), .int (r.pl.length : Int)]) hk
      have hkk : SqT K (upd G2 k (.tup [V.int (if r.ex = true then 1 else 0), .int (r.pl.length : Int)])) k [.int (rkE r), .int (r.pl.length : Int)] := .of upd_same
      generalize upd G2 k (.tup [V.int (if r.ex = true then 1 else 0), .int (r.pl.length : Int)]) = G3 at s3 hkk ⊢
      have s03 := s02.trans s3
      have sG3 := sB.trans s3
      refine ⟨_, rfl, _, rfl, ?_⟩
      by_cases ft : Fit ws r
      · rw [decide_eq_true ft]
        refine iteT ⟨_, rfl, ?_⟩
        cases o with
        | none =>
          cases bv
          rw [show decide (V.non = V.non) = true by decide]
          refine ⟨_, rfl, iteT (iteT ⟨_, rfl, _, rfl, _, rfl, (show 3 ≤ sizeLine by decide), fun n hn => ?_⟩)⟩
          have s4 := Same.new (o := .tup [V.ref k, .ref rp, rx]) hn
          have s04 := s03.trans s4
          exact ⟨s04, _, _, _, _, _, _, some r, rfl, B.take ft (fun y e => nomatch e), n, k, rp, rx, rfl, .of upd_same, same_T s4 hkk, same_T s04 t2, t3.mono fun _ _ q => same_T s04 q⟩
        | some y =>
          obtain ⟨b, k2, p2, a2, rfl, h1, h2, h3, h4⟩ := bv
          rw [show decide (V.ref b = V.non) = false from decide_eq_false (fun h => nomatch h)]
          have dr : ∀ {H : Hp} {a : Addr} {r : Rl}, SqT K H a [.int (rkE r), .int (r.pl.length : Int)] → Dp K H (.ref a) (rkD r) := fun h => .tup h (.cons (.int _) (.cons (.int _) .nil))
          refine ⟨_, rfl, iteF ⟨_, rfl, _, rfl, b, _, _, _, rfl, rfl, same_T sG3 h1, at0, rkD r, rkD y, dr hkk, dr (same_T sG3 h2), rfl, (fun h => nomatch h), (by simp [rkD, PyData.depth, PyData.depthAll]), ?_⟩⟩
          rw [rk_lt]
          refine ⟨_, rfl, ?_⟩
          by_cases le : RkLe r y
          · rw [decide_eq_false (fun h => h le)]
            exact iteF ⟨s03, _, _, _, _, _, _, some y, rfl, B.skip (.inr ⟨y, rfl, le⟩), b, k2, p2, a2, rfl, same_T sG3 h1, same_T sG3 h2, same_T sG3 h3, h4.mono fun _ _ q => same_T sG3 q⟩
          · rw [decide_eq_true le]
            refine iteT ⟨_, rfl, _, rfl, _, rfl, (show 3 ≤ sizeLine by decide), fun n hn => ?_⟩
            have s4 := Same.new (o := .tup [V.ref k, .ref rp, rx]) hn
            have s04 := s03.trans s4
            exact ⟨s04, _, _, _, _, _, _, some r, rfl, B.take ft (fun z e => by cases e; exact RkLe.of_not le), n, k, rp, rx, rfl, .of upd_same, same_T s4 hkk, same_T s04 t2, t3.mono fun _ _ q => same_T s04 q⟩
      · rw [decide_eq_false ft]
        exact iteF (iteF ⟨s03, _, _, _, _, _, _, o, rfl, B.skip (.inl ft), bv.same sG3⟩)
    · rintro σ G ⟨s0, u3, u4, u5, u6, u7, v, o, rfl, B, bv⟩
      have lr := hR.length
      rw [List.take_of_length_le (by omega)] at B
      have eA : answerOf rs ws = (match o with | none => .tuple [.str "nothing"] | some r => ansOf r ws) := by
        unfold answerOf
        rw [best_rule g.one B]
        cases o <;> rfl
      refine ⟨_, rfl, ?_⟩
      cases o with
      | none =>
        cases bv
        rw [show decide (V.non = V.non) = true by decide]
        refine ⟨_, rfl, iteT ⟨(show 1 ≤ sizeLine by decide), fun n hn => ?_⟩⟩
        have s4 := Same.new (o := .tup [V.str "nothing"]) hn
        refine q _ _ (s0.trans s4) ?_
        rw [eA]
        exact .tup (.of upd_same) (.cons (.str _) .nil)
      | some r =>
        obtain ⟨b, k, p, x, rfl, h1, h2, h3, h4⟩ := bv
        rw [show decide (V.ref b = V.non) = false from decide_eq_false (fun h => nomatch h)]
        obtain ⟨hr1, fit, _⟩ := B.yes r rfl
        refine ⟨_, rfl, iteF ⟨_, rfl, _, rfl, b, _, rfl, h1, fun c0 G1 s1 hc0 => ?_⟩⟩
        rw [cutV_tail] at hc0
        have s01 := s0.trans s1
        refine ⟨c0, _, rfl, hc0, rfl, _, _, rfl, _, _, rfl, rfl, ?_⟩
        refine ⟨_, rfl, _, rfl, p, _, rfl, .inr (same_T s1 h3), _, rfl, a, _, rfl, same_T s01 ha, fun e G2 s2 he => ?_⟩
        rw [List.length_map, cut_hi] at he
        have s02 := s01.trans s2
        have s12 := s1.trans s2
        have bv : AnAt K G2 x r.ex r.an := h4.mono fun _ _ q => same_T s12 q
        have okr := (g.ok r hr1).an
        have ea : answerOf rs ws = ansOf r ws := eA
        unfold ansOf at ea
        have dz : r.ex = true → ws.drop r.pl.length = [] := fun h => by
          rcases fit with ⟨_, e⟩ | ⟨e, _⟩
          · rw [e]
            exact List.drop_length
          · rw [h] at e
            cases e
        generalize r.ex = ex at bv ea dz
        generalize r.an = an at bv ea okr
        cases an with
        | gone =>
          obtain ⟨c, rfl, hc⟩ := bv
          refine ⟨_, rfl, c, _, _, _, rfl, rfl, hc, at0, rfl, _, rfl, ?_⟩
          rw [show decide (V.str "gone" = V.str "section") = false by decide +kernel]
          refine iteF ⟨_, rfl, c, _, _, _, rfl, rfl, hc, at0, rfl, _, rfl, ?_⟩
          rw [show decide (V.str "gone" = V.str "to") = false by decide +kernel]
          refine iteF ⟨_, rfl, q _ _ s02 ?_⟩
          rw [ea]
          cases ex <;> exact .tup hc (.cons (.str _) .nil)
        | own z =>
          obtain ⟨c, rfl, hc⟩ := bv
          cases ex with
          | true =>
            refine ⟨_, rfl, c, _, _, _, rfl, rfl, hc, at0, rfl, _, rfl, ?_⟩
            rw [show decide (V.str (ownS true) = V.str "section") = false by decide +kernel]
            refine iteF ⟨_, rfl, c, _, _, _, rfl, rfl, hc, at0, rfl, _, rfl, ?_⟩
            rw [show decide (V.str (ownS true) = V.str "to") = false by decide +kernel]
            refine iteF ⟨_, rfl, q _ _ s02 ?_⟩
            rw [ea]
            exact .tup hc (.cons (.str _) (.cons (.str _) .nil))
          | false =>
            refine ⟨_, rfl, c, _, _, _, rfl, rfl, hc, at0, rfl, _, rfl, ?_⟩
            rw [show decide (V.str (ownS false) = V.str "section") = true by decide +kernel]
            refine iteT ⟨_, rfl, c, _, _, _, rfl, rfl, hc, at1, _, rfl, (show 3 ≤ sizeLine by decide), fun u hu => q _ _ (s02.trans (Same.new hu)) ?_⟩
            rw [ea]
            exact .tup (.of upd_same) (.cons (.str _) (.cons (.str _) (.cons (dp_wt (same_T (Same.new hu) he)) .nil)))
        | to tg n =>
          obtain ⟨c, d, rfl, hc, hd⟩ := bv
          refine ⟨_, rfl, c, _, _, _, rfl, rfl, hc, at0, rfl, _, rfl, ?_⟩
          rw [show decide (V.str "to" = V.str "section") = false by decide +kernel]
          refine iteF ⟨_, rfl, c, _, _, _, rfl, rfl, hc, at0, rfl, _, rfl, ?_⟩
          rw [show decide (V.str "to" = V.str "to") = true by decide +kernel]
          have ltg : tg.length ≤ 4 := okr.1
          have lw : (ws.drop r.pl.length).length ≤ 900 := by
            rw [List.length_drop]
            omega
          refine iteT ⟨_, rfl, c, _, _, _, rfl, rfl, hc, at1, _, rfl, d, e, _, _, rfl, rfl, hd, he, by rw [List.length_map, List.length_map]; exact Nat.le_trans (show tg.length + (ws.drop r.pl.length).length ≤ 904 by omega) (by decide), fun ap G5 s5 hap => ?_⟩
          rw [← List.map_append] at hap
          refine ⟨_, rfl, c, _, _, _, rfl, rfl, same_T s5 hc, at_of (j := 2) rfl rfl, (show 3 ≤ sizeLine by decide), fun u hu => ?_⟩
          have s6 := Same.new (o := .tup [V.str "to", .ref ap, .int n]) hu
          refine q _ _ (s02.trans (s5.trans s6)) ?_
          rw [ea]
          have fin : Dp K (upd G5 u (.tup [V.str "to", .ref ap, .int n])) (.ref u) (.tuple [.str "to", wt (tg ++ ws.drop r.pl.length), .int n]) := .tup (.of upd_same) (.cons (.str _) (.cons (dp_wt (same_T s6 hap)) (.cons (.int n) .nil)))
          cases ex with
          | false => exact fin
          | true =>
            rw [dz rfl, List.append_nil] at fin
            exact fin
end
end K28
namespace K28
open PySem L2 Ld PyProof.Rows
abbrev sBegins : Stmt := top 12
abbrev sRound : Stmt := top 28
abbrev sRep : Stmt := top 29
/-! ### a walk that comes round, in plain Lean -/
def restOf (part : List (List Str)) (n : Nat) : List Str := (part.headD []).drop n
def endsB (rest a : List Str) : Bool := decide (rest.length ≤ a.length) && decide (a.drop (a.length - rest.length) = rest)
def frontOf (rest a : List Str) : List Str := a.take (a.length - rest.length)
def begB (a b : List Str) : Bool := decide (a.take b.length = b)
def repR (rest : List Str) (part js : List (List Str)) : Bool :=
  part.all (endsB rest) && ((part.map (frontOf rest)).dropLast.all fun z => decide (z ∉ js)) && begB ((part.map (frontOf rest)).getLastD []) ((part.map (frontOf rest)).headD [])
def repB (part : List (List Str)) (n : Nat) (js : List (List Str)) : Bool := repR (restOf part n) part js
theorem at_last {xs : List V} {v : V} (pos : 0 < xs.length) (h : xs[xs.length - 1]? = some v) : atI xs (-1) = some v := by
  unfold atI ixN
  rw [if_neg (by decide), if_pos (by omega), show ((-1 : Int) + (xs.length : Int)).toNat = xs.length - 1 by omega]
  exact h
theorem cut_lastV (xs : List V) : cutV xs none (some (-1)) = xs.dropLast := by
  unfold cutV
  have e : HT.sIx xs.length xs.length (some (-1)) = xs.length - 1 := by
    show (if (-1 : Int) < 0 then ((-1 : Int) + ((xs.length : Nat) : Int)).toNat else min (-1 : Int).toNat xs.length) = xs.length - 1
    rw [if_pos (by decide)]
    omega
  rw [e, HT.sIx_none, List.drop_zero, Nat.sub_zero, List.dropLast_eq_take]
theorem op_inNK {X : Cx} {P : Program} {w : World} {K : PySem.W.Frag} (hu : X.A.units + 16 < cLine) (hP : X.prog = P := by rfl) (hw : X.w = w := by rfl) (hK : X.K = K := by rfl) : OpR X (compareOp .In) (rInN P w K) := by
  subst hP hw hK
  exact op_inN hu
section
variable {P : Program} {w : World} {K : PySem.W.Frag} {mg : Str → Option Value} {base : Heap} {f : Addr} {fd : FuncData} {CT : Addr}
def spBegins (K : PySem.W.Frag) : Sp := fun vs H Q _ => ∃ (a b : Addr) (ws us : List Str), vs = [.ref a, .ref b] ∧ SqT K H a (ws.map V.str) ∧ SqT K H b (us.map V.str) ∧ LowW ws ∧ LowW us ∧ ∀ H', Same H H' → Q (.bl (begB ws us)) H'
theorem scBegins : FnScope ["address", "beginning"] ["address", "beginning"] (defScope sBegins) := ⟨rfl, rfl, rfl, by decide +kernel, rfl, by decide +kernel, by decide +kernel⟩
theorem ok_begins (Fd : Fun K "begins" "begins" sBegins f fd) (T : Tx mg) : FnOk P w K mg base CX0 1 f fd ["address", "beginning"] (spBegins K) := by
  refine Fd.ok scBegins (fun vs H Q E h => ?_) (fun cdv A outer s H vs Q E hr h => ?_)
  · obtain ⟨a, b, ws, us, rfl, _⟩ := h
    rfl
  · obtain ⟨a, b, ws, us, rfl, ha, hb, lw, lu, q⟩ := h
    refine ⟨_, pss_one (ps_ret (pe_cmpR (op_eqD hr.units) (pe_callTy call_tuple_of (by rfl) T.tuple (by decide +kernel) (pa_cons (pe_slice sl_tupW (pv 0) po_none (po_some (pe_callB call_len_seq (by rfl) T.len PySem.boot_len (pa_cons (pv 1) pa_nil)))) pa_nil))
      (pe_callTy call_tuple_of (by rfl) T.tuple (by decide +kernel) (pa_cons (pv 1) pa_nil)) (nomark _))), ?_⟩
    refine ⟨_, rfl, _, rfl, b, _, rfl, .inr hb, _, rfl, a, _, rfl, ha, fun r H1 s1 h1 => ?_⟩
    rw [List.length_map, cut_lo] at h1
    have hb1 := same_T s1 hb
    refine ⟨r, _, rfl, .inr ⟨h1, _, rfl, b, _, rfl, .inr ⟨hb1, ?_⟩⟩⟩
    have sh1 : SeqAt.shaped (wt (ws.take us.length)) = true := shaped_wt fun z hz => lw z (List.mem_of_mem_take hz)
    refine ⟨_, _, dp_wt h1, dp_wt hb1, sh1, shaped_wt lu, ?_⟩
    rw [eqv_wt]
    exact q _ s1
def spRep (P : Program) (w : World) (K : PySem.W.Frag) : Sp := fun vs H Q _ => ∃ (pa D : Addr) (xs : List V) (part : List (List Str)) (n : Nat) (rows : List Rw) (js : List (List Str)), vs = [.ref pa, .int (n : Int), .ref D] ∧ SqL K H pa xs ∧ Places K H xs part ∧ part ≠ [] ∧ part.length ≤ 100 ∧ (∀ a ∈ part, LowW a) ∧
  JD P w K H D rows js ∧ ∀ H', Same H H' → Q (.bl (repB part n js)) H'
def repN : List Str := ["part", "size", "places", "rest", "fronts", "address", "cut", "front"]
theorem scRep : FnScope repN ["part", "size", "places"] (defScope sRep) := ⟨rfl, rfl, rfl, by decide +kernel, rfl, by decide +kernel, by decide +kernel⟩
theorem ok_rep (Fd : Fun K "_can_be_repeated" "_can_be_repeated" sRep f fd) (T : Tx mg) (DB : Df P w K mg base 1 "begins" ["address", "beginning"] (spBegins K)) : FnOk P w K mg base CX0 2 f fd ["part", "size", "places"] (spRep P w K) := by
  refine Fd.ok scRep (fun vs H Q E h => ?_) (fun cdv A outer s H vs Q E hr h => ?_)
  · obtain ⟨pa, D, xs, part, n, rows, js, rfl, _⟩ := h
    rfl
  · obtain ⟨pa, D, xs, part, n, rows, js, rfl, hp, pl, hne, hlen, low, jd, q⟩ := h
    have nd := scRep.nd
    have hu16 : (A.deeper (envOfC "_can_be_repeated" (defScope sRep) s.heap.objs.size f cdv)).units + 16 < cLine := Nat.lt_of_le_of_lt (Nat.add_le_add_left (by decide) _) hr.units
    refine ⟨_, pss_cons (ps_set (i := 3) nd rfl (Or.inl rfl) (pe_slice (r := rSlW K) sl_tupK (pe_ix ix_list (pv 0) pe_int (fun _ _ => rfl)) (po_some (pv 1)) po_none))
      (pss_cons (ps_set (i := 4) nd rfl (Or.inl rfl) (pe_lstN pa_nil))
      (pss_cons (ps_for PassesOwn.never rfl (pi_list (pv 0)) (pg_name (i := 5) nd rfl (Or.inl rfl))
        (pss_cons (ps_set (i := 6) nd rfl (Or.inl rfl) (pe_op op_sub (pe_callB call_len_seq (by rfl) T.len PySem.boot_len (pa_cons (pv 5) pa_nil)) (pe_callB call_len_seq (by rfl) T.len PySem.boot_len (pa_cons (pv 3) pa_nil))))
        (pss_cons (ps_if (PW.pt (pw_or (pt_cmpR op_lt (pv 6) pe_int (nomark _)) (pw_or1 (pt_cmpR (op_neD hr.units) (pe_slice (r := rSlW K) sl_tupK (pv 5) (po_some (pv 6)) po_none) (pv 3) (nomark _))))) (pss_one (ps_ret pe_bl)) pss_nil)
        (pss_one (ps_expr (pe_bm PySem.F.plainAttrs_list PySem.F.slot_list_append PySem.F.type_list_append mt_append (pv 4) (pa_cons (pe_slice (r := rSlW K) sl_tupK (pv 5) po_none (po_some (pv 6))) pa_nil)))))))
      (pss_cons (ps_for PassesOwn.never rfl (pi_list (pe_slice sl_list (pv 4) po_none (po_some (pe_un un_neg pe_int)))) (pg_name (i := 7) nd rfl (Or.inl rfl))
        (pss_one (ps_if (pt_cmpR (op_inNK (P := P) (w := w) (K := K) hu16) (pv 7) (pv 2) (by rfl)) (pss_one (ps_ret pe_bl)) pss_nil)))
      (pss_one (ps_ret (pe_df DB hr (pa_cons (pe_ix ix_list (pv 4) (pe_un un_neg pe_int) (fun _ _ => rfl)) (pa_cons (pe_ix ix_list (pv 4) pe_int (fun _ _ => rfl)) pa_nil)))))))), ?_⟩
    obtain ⟨a0, part0, rfl⟩ : ∃ a0 part0, part = a0 :: part0 := by
      cases part with
      | nil => exact absurd rfl hne
      | cons a b => exact ⟨a, b, rfl⟩
    have lx := pl.length
    obtain ⟨x0, xs0, rfl⟩ : ∃ x0 xs0, xs = x0 :: xs0 := by
      cases xs with
      | nil => simp at lx
      | cons a b => exact ⟨a, b, rfl⟩
    obtain ⟨ws0, e0, p0, rfl, h0⟩ := pair_get pl (i := 0) rfl
    obtain rfl := Option.some.inj e0
    refine ⟨_, rfl, pa, _, _, _, rfl, rfl, hp, at0, _, rfl, _, rfl, p0, _, rfl, h0, fun rp G1 s1 hrp => ?_⟩
    rw [cut_hi] at hrp
    refine ⟨(show 0 ≤ sizeLine by decide), fun fl hfl nfl => ?_⟩
    have s2 := Same.new (o := .lst []) hfl
    have s12 := s1.trans s2
    have kf := upd_same (H := G1) (a := fl) (o := .lst [])
    have hrp2 := same_T s2 hrp
    have nfH : H fl = none := s1.free hfl
    have stay : ∀ {G : Hp} {o : HO}, Same H G → Same H (upd G fl o) := fun {G o} z c u e => by
      rw [upd_ne (ne_of_none e nfH)]
      exact z c u e
    have rlow : LowW (a0.drop n) := fun z hz => low a0 List.mem_cons_self z (List.mem_of_mem_drop hz)
    generalize upd G1 fl (.lst []) = G2 at s2 s12 kf hrp2 ⊢
    have eR : restOf (a0 :: part0) n = a0.drop n := rfl
    generalize hrest : a0.drop n = rest at hrp2 rlow eR
    refine ⟨_, rfl, pa, rfl, ⟨_, s12.seq hp⟩, for_list (K := K) (a := pa) (xs := V.ref p0 :: xs0) (fun i σ G => ∃ u5 u6 fs, σ = [some (.ref pa), some (.int (n : Int)), some (.ref D), some (.ref rp), some (.ref fl), u5, u6, none] ∧ Same H G ∧ SqT K G rp (rest.map V.str) ∧ G fl = some (.lst fs) ∧ Places K G fs (((a0 :: part0).take i).map (frontOf rest)) ∧ ((a0 :: part0).take i).all (endsB rest) = true)
      ⟨_, _, [], rfl, s12, hrp2, kf, .nil, rfl⟩ (fun i σ G _ h => by obtain ⟨_, _, _, _, sG, _⟩ := h; exact sG.seq hp) ?_ ?_⟩
    · rintro i x σ G hx ⟨u5, u6, fs, rfl, sG, hrG, gF, pF, al⟩
      obtain ⟨a, ea, ap, rfl, ha⟩ := pair_get pl hx
      have hmem := List.mem_of_getElem? ea
      have hi : i < (a0 :: part0).length := (List.getElem?_eq_some_iff.mp ea).1
      have la := low a hmem
      have tk : (a0 :: part0).take (i + 1) = (a0 :: part0).take i ++ [a] := by
        rw [List.take_add_one, ea]
        rfl
      have haG := same_T sG ha
      refine ⟨_, rfl, ap, _, rfl, .inr haG, _, rfl, rp, _, rfl, .inr hrG, _, _, rfl, rfl, ?_⟩
      rw [List.length_map, List.length_map]
      have no : endsB rest a = false → repB (a0 :: part0) n js = false := fun e => by
        unfold repB
        rw [eR]
        unfold repR
        rw [show (a0 :: part0).all (endsB rest) = false from ?_]
        · rfl
        · rw [Bool.eq_false_iff]
          intro h
          have := List.all_eq_true.mp h a hmem
          rw [e] at this
          cases this
      refine ⟨_, rfl, _, _, rfl, rfl, _, rfl, ?_⟩
      by_cases neg : ((a.length : Int) - (rest.length : Int)) < 0
      · rw [decide_eq_true neg]
        refine iteT (iteT ?_)
        have := q _ sG
        rw [no (by unfold endsB; rw [decide_eq_false (by omega)]; rfl)] at this
        exact this
      · rw [decide_eq_false neg]
        obtain ⟨c, ec, cl⟩ : ∃ c : Nat, ((a.length : Int) - (rest.length : Int)) = (c : Int) ∧ c = a.length - rest.length := ⟨a.length - rest.length, by omega, rfl⟩
        refine iteF ?_
        rw [show (fun i j : Int => V.int (i - j)) (a.length : Int) (rest.length : Int) = V.int (c : Int) from congrArg V.int ec]
        refine ⟨_, rfl, _, rfl, _, rfl, ap, _, rfl, haG, fun tp G3 s3 ht => ?_⟩
        rw [cut_hi] at ht
        have hr3 := same_T s3 hrG
        have sh1 : SeqAt.shaped (wt (a.drop c)) = true := shaped_wt fun z hz => la z (List.mem_of_mem_drop hz)
        refine ⟨_, rfl, _, _, dp_wt ht, dp_wt hr3, sh1, shaped_wt rlow, _, rfl, ?_⟩
        rw [eqv_wt]
        have s03 := sG.trans s3
        have ha3 := same_T s3 haG
        have gF3 := s3 _ _ gF
        have pF3 : Places K G3 fs _ := Paired.mono (fun _ _ ⟨b, e, t⟩ => ⟨b, e, same_T s3 t⟩) pF
        by_cases e : a.drop c = rest
        · rw [decide_eq_true e]
          refine iteF ⟨_, rfl, Or.inl ⟨rfl, _, Or.inl (Or.inl gF3)⟩, _, rfl, _, rfl, _, rfl, ap, _, rfl, ha3, fun q4 G4 s4 h4 => ?_⟩
          rw [cut_lo] at h4
          have gF4 := s4 _ _ gF3
          have pF4 : Places K G4 fs _ := Paired.mono (fun _ _ ⟨b, e, t⟩ => ⟨b, e, same_T s4 t⟩) pF3
          have lf := pF.length
          refine ⟨fl, fs, .ref q4, rfl, rfl, gF4, Nat.lt_of_le_of_lt (show fs.length ≤ 100 from ?_) (by decide), _, _, fs ++ [.ref q4], rfl, stay (s03.trans s4), sqT_list gF4 (same_T s4 hr3), upd_same, ?_, ?_⟩
          · rw [lf, List.length_map, List.length_take]
            omega
          · rw [tk, List.map_append]
            have ef : frontOf rest a = a.take c := by
              unfold frontOf
              rw [cl]
            exact (Paired.mono (fun _ _ ⟨b, e, t⟩ => ⟨b, e, sqT_list gF4 t⟩) pF4).snoc ⟨q4, rfl, by rw [ef]; exact sqT_list gF4 h4⟩
          · rw [tk, List.all_append, al]
            unfold endsB
            simp only [List.all_cons, List.all_nil, Bool.and_true, Bool.true_and]
            rw [decide_eq_true (by omega : rest.length ≤ a.length), ← cl, decide_eq_true e]
            rfl
        · rw [decide_eq_false e]
          refine iteT ?_
          have := q _ s03
          rw [no (by unfold endsB; rw [← cl, decide_eq_false e, Bool.and_false])] at this
          exact this
    · rintro σ G ⟨u5, u6, fs, rfl, sG, hrG, gF, pF, al⟩
      rw [List.take_of_length_le (by rw [lx]; exact Nat.le_refl _)] at pF al
      have lf := pF.length
      have few : fs.length ≤ 100 := by
        rw [lf, List.length_map]
        omega
      have eB : repB (a0 :: part0) n js = ((((a0 :: part0).map (frontOf rest)).dropLast.all fun z => decide (z ∉ js)) && begB (((a0 :: part0).map (frontOf rest)).getLastD []) (((a0 :: part0).map (frontOf rest)).headD [])) := by
        unfold repB
        rw [eR]
        unfold repR
        rw [al]
        rfl
      have flow : ∀ z ∈ (a0 :: part0).map (frontOf rest), LowW z := fun z hz => by
        obtain ⟨y, hy, rfl⟩ := List.mem_map.mp hz
        exact fun c hc => low y hy c (List.mem_of_mem_take hc)
      have fne : (a0 :: part0).map (frontOf rest) ≠ [] := by simp
      generalize (a0 :: part0).map (frontOf rest) = fr at pF eB flow fne lf
      refine ⟨_, rfl, _, rfl, _, rfl, fl, fs, rfl, .of gF, fun sl hsl => ?_⟩
      rw [cut_lastV]
      have s5 := Same.new (o := .lst fs.dropLast) hsl
      have ks := upd_same (H := G) (a := sl) (o := .lst fs.dropLast)
      have s05 := sG.trans s5
      have gF5 := s5 _ _ gF
      have pF5 : Places K (upd G sl (.lst fs.dropLast)) fs fr := Paired.mono (fun _ _ ⟨b, e, t⟩ => ⟨b, e, same_T s5 t⟩) pF
      generalize upd G sl (.lst fs.dropLast) = G5 at s5 ks s05 gF5 pF5 ⊢
      refine ⟨sl, rfl, ⟨_, .of ks⟩, for_list (K := K) (a := sl) (xs := fs.dropLast) (fun i σ G' => G' = G5 ∧ ∃ u7, σ = [some (.ref pa), some (.int (n : Int)), some (.ref D), some (.ref rp), some (.ref fl), u5, u6, u7] ∧ (fr.dropLast.take i).all (fun z => decide (z ∉ js)) = true)
        ⟨rfl, _, rfl, rfl⟩ (fun i σ G' _ h => by rw [h.1]; exact .of ks) ?_ ?_⟩
      · rintro i x σ G' hx ⟨rfl, u7, rfl, al2⟩
        have hi : i < fs.dropLast.length := (List.getElem?_eq_some_iff.mp hx).1
        rw [List.length_dropLast] at hi
        have hx2 : fs[i]? = some x := by
          rw [List.getElem?_dropLast, if_pos (by omega)] at hx
          exact hx
        obtain ⟨z, ez, zp, rfl, hz⟩ := pair_get pF5 hx2
        have ez2 : fr.dropLast[i]? = some z := by
          rw [List.getElem?_dropLast, if_pos (by omega)]
          exact ez
        refine ⟨_, rfl, _, rfl, zp, D, kA z, rows, rfl, rfl, nis_ws hz, kA_deep _, (jd.same s05).1, ?_⟩
        rw [keyJ_get z jd.2]
        refine ⟨_, rfl, ?_⟩
        by_cases hj : z ∈ js
        · rw [decide_eq_true hj]
          refine iteT ?_
          have := q _ s05
          rw [eB, show (fr.dropLast.all fun z => decide (z ∉ js)) = false from ?_] at this
          · exact this
          · rw [Bool.eq_false_iff]
            intro h
            have := List.all_eq_true.mp h z (List.mem_of_getElem? ez2)
            simp [hj] at this
        · rw [decide_eq_false hj]
          refine iteF ⟨rfl, _, rfl, ?_⟩
          rw [List.take_add_one, ez2, List.all_append, al2]
          simp [hj]
      · rintro σ G' ⟨rfl, u7, rfl, al2⟩
        rw [List.take_of_length_le (by rw [List.length_dropLast, List.length_dropLast]; omega)] at al2
        have pos : 0 < fr.length := List.length_pos_iff.mpr fne
        obtain ⟨vl, el⟩ : ∃ v, fs[fs.length - 1]? = some v := ⟨_, List.getElem?_eq_getElem (by omega)⟩
        obtain ⟨v0, e0⟩ : ∃ v, fs[0]? = some v := ⟨_, List.getElem?_eq_getElem (by omega)⟩
        obtain ⟨zl, ezl, pl2, rfl, hzl⟩ := pair_get pF5 el
        obtain ⟨z0, ez0, pz0, rfl, hz0⟩ := pair_get pF5 e0
        refine ⟨_, rfl, _, rfl, fl, fs, _, _, rfl, rfl, .of gF5, at_last (by omega) el, _, rfl, fl, fs, _, _, rfl, rfl, .of gF5, at_of (j := 0) rfl e0, ?_⟩
        refine ⟨pl2, pz0, zl, z0, rfl, hzl, hz0, flow _ (List.mem_of_getElem? ezl), flow _ (List.mem_of_getElem? ez0), fun G6 s6 => ?_⟩
        have := q _ (s05.trans s6)
        rw [eB, al2, show fr.getLastD [] = zl by rw [List.getLastD_eq_getLast?, List.getLast?_eq_getElem?, ← lf, ezl]; rfl, show fr.headD [] = z0 from by
          cases fr with
          | nil => exact absurd rfl fne
          | cons x y => exact Option.some.inj ez0] at this
        exact this
end
end K28
namespace K28
open PySem L2 Ld PyProof.Rows
/-! the tables in a tuple -/
section
variable {P : Program} {w : World} {K : PySem.W.Frag} {mg : Str → Option Value} {base : Heap} {f : Addr} {fd : FuncData} {CT : Addr}
def spJFT (P : Program) (w : World) (K : PySem.W.Frag) (CT : Addr) : Sp := fun vs H Q _ => ∃ (a : Addr) (xs : List V) (rss : List (List Rl)), vs = [.ref a] ∧ SqT K H a xs ∧ Tabs P w K CT H xs rss ∧ rss.flatten.length ≤ 150 ∧
  ∀ D H' rows, H D = none → Same H H' → JD P w K H' D rows (jointsOf rss) → Q (.ref D) H'

theorem ok_jfT {pR gR : Addr} {fdR : FuncData} (Fd : Fun K "joints_found" "joints_found" sJF f fd) (T : Tx mg) (C : Tcl K CT) (PR : PropOf K CT "rules" pR gR) (bR : Binds K fdR ["self"] []) (FR : FnOk P w K mg base CX0 1 gR fdR ["self"] (spRules P w K CT))
    (DB : Df P w K mg base 1 "beginnings" ["address"] (spBegs K)) : FnOk P w K mg base CX0 3 f fd ["tables"] (spJFT P w K CT) := by
  refine Fd.ok scJF (fun vs H Q E h => ?_) (fun cdv A outer s H vs Q E hr h => ?_)
  · obtain ⟨a, xs, rss, rfl, _⟩ := h
    rfl
  · obtain ⟨a, xs, rss, rfl, ha, hT, hn, q⟩ := h
    have nd := scJF.nd
    have hu16 : (A.deeper (envOfC "joints_found" (defScope sJF) s.heap.objs.size f cdv)).units + 16 < cLine := Nat.lt_of_le_of_lt (Nat.add_le_add_left (by decide) _) hr.units
    refine ⟨_, pss_cons (ps_set (i := 1) nd rfl (Or.inl rfl) (pe_disp1NK (P := P) (w := w) (K := K) hu16 (pps_cons (pe_tup pa_nil) pe_bl pps_nil) rfl))
      (pss_cons (ps_for PassesOwn.never rfl (pi_tup (pv 0)) (pg_name (i := 2) nd rfl (Or.inl rfl))
        (pss_one (ps_for PassesOwn.never rfl (pi_tup (pe_prop (E := E0) (dvs := []) (pv 2) C.cls PR FR (hr.mono (by decide)) bR .nil (fun _ _ _ _ _ _ _ z => z) rfl)) (pg_tup rfl (pgs_cons (pg_name (i := 3) nd rfl (Or.inl rfl)) (pgs_cons (pg_name (i := 4) nd rfl (Or.inl rfl)) (pgs_cons (pg_name (i := 5) nd rfl (Or.inl rfl)) pgs_nil))))
          (pss_cons (ps_for PassesOwn.never rfl (pi_list (pe_df DB hr (pa_cons (pe_slice (r := rSlW K) sl_tupK (pv 4) po_none (po_some (pe_un un_neg pe_int))) pa_nil))) (pg_name (i := 6) nd rfl (Or.inl rfl))
            (pss_one (ps_asg pe_bl (pg_sub (pv 1) (pv 6) (pset_kdK (P := P) (w := w) (K := K) hu16)))))
          (pss_one (ps_if (pt_cmpR op_eq (pv 3) pe_str (nomark _)) (pss_one (ps_asg pe_bl (pg_sub (pv 1) (pv 4) (pset_kdK (P := P) (w := w) (K := K) hu16)))) pss_nil))))))
      (pss_one (ps_ret (pv 1)))), ?_⟩
    intro D hD low
    have s1 : Same H (upd H D (kdO P w D [])) := Same.new hD
    have z1 : (upd H D (kdO P w D [])) D = some (kdO P w D []) := upd_same
    refine ⟨(show 0 ≤ sizeLine by decide), fun kb hkb => ?_⟩
    have s2 := Same.new (o := .tup []) hkb
    have k2 := upd_same (H := upd H D (kdO P w D [])) (a := kb) (o := .tup [])
    have z2 := s2 _ _ z1
    have s12 := s1.trans s2
    generalize upd (upd H D (kdO P w D [])) kb (.tup []) = G2 at s2 k2 z2 s12 ⊢
    have nk : NIs K G2 (kA []) (.ref kb) := nis_ws (.of k2)
    refine ⟨kb, kA [], .bl true, rfl, nk, kA_deep _, z2, ?_⟩
    have J0 : JD P w K (upd G2 D (kdO P w D (kPut [] (kA []) kb (.bl true)))) D (kPut [] (kA []) kb (.bl true)) [[]] := jd_put (js := []) ⟨⟨z2, low, Nat.zero_le _, fun x hx => nomatch hx⟩, .nil⟩ (Nat.zero_le _) nk
    have stay : ∀ {G : Hp} {o : HO}, Same H G → Same H (upd G D o) := fun {G o} s c u e => by
      rw [upd_ne (ne_of_none e hD)]
      exact s c u e
    have s3 := stay (o := kdO P w D (kPut [] (kA []) kb (.bl true))) s12
    generalize upd G2 D (kdO P w D (kPut [] (kA []) kb (.bl true))) = G3 at J0 s3 ⊢
    generalize kPut [] (kA []) kb (.bl true) = rows0 at J0
    have good := hT.good
    have sizes : ∀ {js : List (List Str)} {rows : List Rw} {G : Hp}, JD P w K G D rows js → rows.length = js.length := fun z => z.2.length
    refine ⟨_, rfl, a, rfl, ⟨_, same_T s3 ha⟩, for_tup (K := K) (a := a) (xs := xs) (fun i σ G => ∃ u2 u3 u4 u5 u6 rows, σ = [some (.ref a), some (.ref D), u2, u3, u4, u5, u6] ∧ Same H G ∧ JD P w K G D rows ((rss.take i).foldl tabJ [[]]))
      ⟨_, _, _, _, _, rows0, rfl, s3, J0⟩ (fun i σ G _ h => by obtain ⟨_, _, _, _, _, _, _, sG, _⟩ := h; exact same_T sG ha) ?_ ?_⟩
    · rintro i x σ G hx ⟨u2, u3, u4, u5, u6, rows, rfl, sG, jd⟩
      obtain ⟨rs, e1, t, rfl, Tt0⟩ := pair_get hT hx
      have Tt := Tt0.same sG
      have hmem := List.mem_of_getElem? e1
      have ok := (good rs hmem).ok
      have hfl := flat_at e1
      have l0 : ((rss.take i).foldl tabJ [[]]).length ≤ 1 + 5 * (rss.take i).flatten.length := joints_len (rss.take i) [[]] fun ts hts r hr => ((good ts (List.mem_of_mem_take hts)).ok r hr).len
      have tk : (rss.take (i + 1)).foldl tabJ [[]] = tabJ ((rss.take i).foldl tabJ [[]]) rs := by
        rw [List.take_add_one, e1, List.foldl_append]
        rfl
      rw [tk]
      generalize (rss.take i).foldl tabJ [[]] = js at jd l0 ⊢
      obtain ⟨dx, tt, td, tz, trows, tm, o8, _⟩ := id Tt
      refine ⟨_, rfl, t, dx, _, rfl, o8, t, rs, rfl, Tt, fun p ps G5 s5 hp hR => ?_⟩
      have jd5 := jd.same s5
      refine ⟨p, rfl, ⟨_, hp⟩, for_tup (K := K) (a := p) (xs := ps) (fun j σ G' => ∃ u3 u4 u5 u6 rows', σ = [some (.ref a), some (.ref D), some (.ref t), u3, u4, u5, u6] ∧ Same H G' ∧ (∀ b ys, SqT K G5 b ys → SqT K G' b ys) ∧ JD P w K G' D rows' (tabJ js (rs.take j)))
        ⟨_, _, _, _, rows, rfl, sG.trans s5, (fun _ _ z => z), jd5⟩ (fun j σ G' _ h => by obtain ⟨_, _, _, _, _, _, _, h, _⟩ := h; exact h _ _ hp) ?_ ?_⟩
      · rintro j y σ G' hy ⟨u3, u4, u5, u6, rows', rfl, sG', hT', jd'⟩
        obtain ⟨r, er, ra, rp, rx, rfl, h1, h2, h3⟩ := hR.get hy
        have rok := ok r (List.mem_of_getElem? er)
        have hj : j < rs.length := (List.getElem?_eq_some_iff.mp er).1
        have l1 : (tabJ js (rs.take j)).length ≤ js.length + 5 * (rs.take j).length := tabJ_len _ _ fun t ht => (ok t (List.mem_of_mem_take ht)).len
        rw [List.length_take] at l1
        have tk2 : tabJ js (rs.take (j + 1)) = ruleJ (tabJ js (rs.take j)) r := by
          unfold tabJ
          rw [List.take_add_one, er, List.foldl_append]
          rfl
        rw [tk2]
        generalize tabJ js (rs.take j) = js2 at jd' l1 ⊢
        have l2 : js2.length ≤ 751 := by omega
        refine ⟨ra, _, rfl, hT' _ _ h1, rfl, _, _, rfl, _, _, rfl, _, _, rfl, rfl, ?_⟩
        have hrl := rok.len
        refine ⟨_, rfl, _, rfl, _, rfl, rp, _, rfl, hT' _ _ h2, fun kp G6 s6 k6 => ?_⟩
        rw [cut_drop] at k6
        refine ⟨kp, r.pl.dropLast, rfl, k6, by rw [List.length_dropLast]; omega, fun bl bs G7 nbl s7 hbl lb db => ?_⟩
        obtain ⟨lb2, bg⟩ := dpAll_get db
        have s67 := s6.trans s7
        have hT7 : ∀ b ys, SqT K G5 b ys → SqT K G7 b ys := fun b ys z => same_T s67 (hT' b ys z)
        have sG7 := sG'.trans s67
        have jd7 := jd'.same s67
        have hbq : bs.length = r.pl.dropLast.length + 1 := by rw [lb2, begD_len]
        have hdl : r.pl.dropLast.length ≤ 4 := by
          rw [List.length_dropLast]
          omega
        refine ⟨bl, rfl, ⟨_, .of hbl⟩, for_list (K := K) (a := bl) (xs := bs) (fun k σ G'' => ∃ u6 rows'', σ = [some (.ref a), some (.ref D), some (.ref t), some (.str (sortS r.ex)), some (.ref rp), some rx, u6] ∧ Same H G'' ∧ (∀ b ys, SqT K G7 b ys → SqT K G'' b ys) ∧ G'' bl = some (.lst bs) ∧ JD P w K G'' D rows'' (((begsOf r.pl.dropLast).take k).foldl addJ js2))
          ⟨_, rows', rfl, sG7, (fun _ _ z => z), hbl, jd7⟩ (fun k σ G'' _ h => by obtain ⟨_, _, _, _, _, h, _⟩ := h; exact .of h) ?_ ?_⟩
        · rintro k y σ G'' hy2 ⟨u6', rows'', rfl, sG'', hT'', kbl, jd''⟩
          have hk : k < r.pl.dropLast.length + 1 := by
            have := (List.getElem?_eq_some_iff.mp hy2).1
            omega
          obtain ⟨d, hd1, hd2⟩ := bg k y hy2
          rw [begD_at _ hk] at hd1
          cases hd1
          obtain ⟨b, rfl, tb⟩ := wt_inv hd2
          have tb' := hT'' _ _ tb
          have e5 : ((begsOf r.pl.dropLast).take (k + 1)).foldl addJ js2 = addJ (((begsOf r.pl.dropLast).take k).foldl addJ js2) (r.pl.dropLast.take k) := by
            rw [List.take_add_one, begs_at _ (by omega), List.foldl_append]
            rfl
          have l3 := adds_len ((begsOf r.pl.dropLast).take k) js2
          rw [List.length_take] at l3
          have l4 := sizes jd''
          have D6 := jd''.1.at_
          have nbD : bl ≠ D := ne_of kbl D6 fun e => nomatch e
          refine ⟨_, rfl, _, rfl, b, D, kA (r.pl.dropLast.take k), rows'', rfl, rfl, nis_ws tb', kA_deep _, jd''.1, ?_⟩
          have jp := jd_put (v := .bl true) jd'' (by omega) (nis_ws tb')
          rw [← e5] at jp
          exact ⟨_, _, rfl, stay sG'', (fun c ys z => sqT_kd D6 (hT'' c ys z)), (upd_ne nbD).trans kbl, jp⟩
        · rintro σ G'' ⟨u6', rows'', rfl, sG'', hT'', kbl, jd''⟩
          have lbs : (begsOf r.pl.dropLast).length ≤ bs.length := by
            rw [begsOf_len]
            omega
          rw [List.take_of_length_le lbs] at jd''
          have l3 := adds_len (begsOf r.pl.dropLast) js2
          rw [begsOf_len] at l3
          have l4 := sizes jd''
          have h2' := hT'' _ _ (hT7 _ _ h2)
          have hT5 : ∀ b ys, SqT K G5 b ys → SqT K G'' b ys := fun b ys z => hT'' b ys (hT7 b ys z)
          refine ⟨_, rfl, rfl, _, rfl, ?_⟩
          unfold ruleJ
          cases hex : r.ex with
          | true =>
            refine iteT ⟨_, rfl, _, rfl, rp, D, kA r.pl, rows'', rfl, rfl, nis_ws h2', kA_deep _, jd''.1, ?_⟩
            have jp := jd_put (v := .bl true) jd'' (by omega) (nis_ws h2')
            exact ⟨_, _, _, _, _, rfl, stay sG'', (fun c ys z => sqT_kd jd''.1.at_ (hT5 c ys z)), by rw [if_pos rfl]; exact jp⟩
          | false =>
            refine iteF ⟨_, _, _, _, rows'', rfl, sG'', hT5, by rw [if_neg (by decide)]; exact jd''⟩
      · rintro σ G' ⟨u3, u4, u5, u6, rows', rfl, sG', hT', jd'⟩
        have lr := hR.length
        rw [List.take_of_length_le (by omega)] at jd'
        exact ⟨_, _, _, _, _, rows', rfl, sG', jd'⟩
    · rintro σ G ⟨u2, u3, u4, u5, u6, rows, rfl, sG, jd⟩
      have lx := Paired.length hT
      rw [List.take_of_length_le (by omega)] at jd
      exact ⟨_, rfl, q D G rows hD sG jd⟩
end
end K28
namespace K28
open PySem L2 Ld PyProof.Rows
/-! ### is_round, of any value -/
def partOf (walk : List (List Str)) (i j : Nat) : List (List Str) := (walk.drop i).take (j + 1 - i)
def coreB (walk : List (List Str)) (i j n : Nat) (js : List (List Str)) : Bool :=
  let part := partOf walk i j
  if part.headD [] = part.getLastD [] ∧ n = (part.headD []).length then true else repB part n js
def toNatD : PyData → Nat
  | .int i => i.toNat
  | _ => 0
def roundD (walk : List (List Str)) (js : List (List Str)) : PyData → Bool
  | .tuple [x, y, n] => numD ((walk.length : Int) - 1) y && numD ((toNatD y : Int) - 1) x && numD (((walk.getD (toNatD x) []).length : Nat) : Int) n && coreB walk (toNatD x) (toNatD y) (toNatD n) js
  | _ => false
theorem pd_take {α β : Type} {F : α → β → Prop} : ∀ {xs : List α} {ys : List β} (m : Nat), Paired F xs ys → Paired F (xs.take m) (ys.take m)
  | _, _, 0, _ => .nil
  | _, _, _ + 1, .nil => .nil
  | _, _, m + 1, .cons a b => .cons a (pd_take m b)
theorem pd_drop {α β : Type} {F : α → β → Prop} : ∀ {xs : List α} {ys : List β} (m : Nat), Paired F xs ys → Paired F (xs.drop m) (ys.drop m)
  | _, _, 0, h => h
  | _, _, _ + 1, .nil => .nil
  | _, _, m + 1, .cons a b => pd_drop m b
theorem cut_mid (xs : List V) {i j : Nat} (h : i ≤ j) (hj : j < xs.length) : cutV xs (some (i : Int)) (some ((j : Int) + 1)) = (xs.drop i).take (j + 1 - i) := by
  unfold cutV
  rw [show ((j : Int) + 1) = ((j + 1 : Nat) : Int) from rfl, HT.sIx_nat, HT.sIx_nat, Nat.min_eq_left (by omega), Nat.min_eq_left (by omega)]
theorem part_len (walk : List (List Str)) {i j : Nat} (hj : j < walk.length) : (partOf walk i j).length = j + 1 - i := by
  unfold partOf
  rw [List.length_take, List.length_drop]
  omega
section
variable {P : Program} {w : World} {K : PySem.W.Frag} {mg : Str → Option Value} {base : Heap} {f : Addr} {fd : FuncData} {CT : Addr}
def spJFB (P : Program) (w : World) (K : PySem.W.Frag) (CT : Addr) : Sp := fun vs H Q E => spJF P w K CT vs H Q E ∨ spJFT P w K CT vs H Q E
def spRound (P : Program) (w : World) (K : PySem.W.Frag) (CT : Addr) : Sp := fun vs H Q _ => ∃ (v : V) (d : PyData) (wa ta : Addr) (xs ts : List V) (walk : List (List Str)) (rss : List (List Rl)), vs = [v, .ref wa, .ref ta] ∧ Dd K H v d ∧ SqL K H wa xs ∧ Places K H xs walk ∧ walk.length ≤ 100 ∧ (∀ a ∈ walk, LowW a) ∧
  (SqL K H ta ts ∨ SqT K H ta ts) ∧ Tabs P w K CT H ts rss ∧ rss.flatten.length ≤ 150 ∧ ∀ H', Same H H' → Q (.bl (roundD walk (jointsOf rss) d)) H'
def rouN : List Str := ["value", "walk", "tables", "i", "j", "n", "part", "address"]
theorem scRound : FnScope rouN ["value", "walk", "tables"] (defScope sRound) := ⟨rfl, rfl, rfl, by decide +kernel, rfl, by decide +kernel, by decide +kernel⟩
theorem ok_round (Fd : Fun K "is_round" "is_round" sRound f fd) (T : Tx mg) (DN : Df P w K mg base 1 "is_number_to" ["value", "highest"] (spNum K)) (DJ : Df P w K mg base 3 "joints_found" ["tables"] (spJFB P w K CT)) (DR : Df P w K mg base 2 "_can_be_repeated" ["part", "size", "places"] (spRep P w K)) :
    FnOk P w K mg base CX0 4 f fd ["value", "walk", "tables"] (spRound P w K CT) := by
  refine Fd.ok scRound (fun vs H Q E h => ?_) (fun cdv A outer s H vs Q E hr h => ?_)
  · obtain ⟨v, d, wa, ta, xs, ts, walk, rss, rfl, _⟩ := h
    rfl
  · obtain ⟨v, d, wa, ta, xs, ts, walk, rss, rfl, hD, hw, pl, hlen, low, ht, hT, hn, q⟩ := h
    have nd := scRound.nd
    refine ⟨_, pss_cons (ps_if (PW.pt (pw_or (pt_not (pt_val (pe_callB (call_isa "tuple") (by rfl) T.isi bootN (pa_cons (pv 0) (pa_cons (pe_bltn (v := .ty "tuple") (by rfl) T.tuple (by decide +kernel) rfl) pa_nil)))))
        (pw_or1 (pt_cmpR op_ne (pe_callB call_len_seq (by rfl) T.len PySem.boot_len (pa_cons (pv 0) pa_nil)) pe_int (nomark _))))) (pss_one (ps_ret pe_bl)) pss_nil)
      (pss_cons (ps_asg (pv 0) (pg_tup rfl (pgs_cons (pg_name (i := 3) nd rfl (Or.inl rfl)) (pgs_cons (pg_name (i := 4) nd rfl (Or.inl rfl)) (pgs_cons (pg_name (i := 5) nd rfl (Or.inl rfl)) pgs_nil)))))
      (pss_cons (ps_if (PW.pt (pw_or (pt_not (pt_val (pe_df DN hr (pa_cons (pv 4) (pa_cons (pe_op op_sub (pe_callB call_len_seq (by rfl) T.len PySem.boot_len (pa_cons (pv 1) pa_nil)) pe_int) pa_nil)))))
        (pw_or1 (pt_not (pt_val (pe_df DN hr (pa_cons (pv 3) (pa_cons (pe_op op_sub (pv 4) pe_int) pa_nil)))))))) (pss_one (ps_ret pe_bl)) pss_nil)
      (pss_cons (ps_if (pt_not (pt_val (pe_df DN hr (pa_cons (pv 5) (pa_cons (pe_callB call_len_seq (by rfl) T.len PySem.boot_len (pa_cons (pe_ix ix_list (pv 1) (pv 3) (fun _ _ => rfl)) pa_nil)) pa_nil))))) (pss_one (ps_ret pe_bl)) pss_nil)
      (pss_cons (ps_setLc (i := 6) (own := [("address", 7)]) (g := gName 7) (tt := tYes) (by rfl) nd rfl rfl (sw_true rfl rfl rfl rfl) (pi_list (pe_slice sl_list (pv 1) (po_some (pv 3)) (po_some (pe_op op_add (pv 4) pe_int)))) (blkOk_by (own := [("address", 7)]) (N := rouN) (sc := defScope sRound) (by decide +kernel))
          (fun _ _ _ _ _ => pg_name (i := 7) nd rfl (Or.inl rfl)) (fun _ _ _ _ _ => pts_nil) (fun _ _ _ _ _ => pe_callTy (T := "tuple") (r := rTup K) call_tupK (by rfl) T.tuple (by decide +kernel) (pa_cons (pv 7) pa_nil)))
      (pss_cons (ps_if (PW.pt (pw_and (pt_cmpR (op_eqD hr.units) (pe_ix ix_list (pv 6) pe_int (fun _ _ => rfl)) (pe_ix ix_list (pv 6) (pe_un un_neg pe_int) (fun _ _ => rfl)) (by rfl)) (pw_and1 (pt_cmpR op_eq (pv 5) (pe_callB call_len_seq (by rfl) T.len PySem.boot_len (pa_cons (pe_ix ix_list (pv 6) pe_int (fun _ _ => rfl)) pa_nil)) (nomark _))))) (pss_one (ps_ret pe_bl)) pss_nil)
      (pss_one (ps_ret (pe_df DR hr (pa_cons (pv 6) (pa_cons (pv 5) (pa_cons (pe_df DJ hr (pa_cons (pv 2) pa_nil)) pa_nil))))))))))), ?_⟩
    refine ⟨_, rfl, _, rfl, _, _, hD.ty, kit_tuple d, _, rfl, ?_⟩
    have noQ : roundD walk (jointsOf rss) d = false → Q (.bl false) H := fun e => by
      have := q H (Same.refl H)
      rw [e] at this
      exact this
    cases d with
    | tuple ds =>
      obtain ⟨a, vs, rfl, hs, hl2, hi⟩ := hD.its
      refine iteF ⟨_, rfl, a, _, rfl, .inr hs, rfl, _, rfl, ?_⟩
      show if (!decide (V.int (vs.length : Int) = V.int ((3 : Nat) : Int))) = true then _ else _
      rw [len_is, hl2]
      match ds, hl2, hi, q, noQ with
      | [], _, _, _, no => exact iteT (no rfl)
      | [_], _, _, _, no => exact iteT (no rfl)
      | [_, _], _, _, _, no => exact iteT (no rfl)
      | k :: n :: m :: b :: r2, _, _, _, no =>
        rw [decide_eq_false (by simp)]
        exact iteT (no rfl)
      | [k, m, n], hl2, hi, q, no =>
        match vs, hl2, hs, hi with
        | [x, y, z], _, hs, hi =>
          obtain ⟨d0, z0, D0⟩ := hi 0 x rfl
          cases z0
          obtain ⟨d1, z1, D1⟩ := hi 1 y rfl
          cases z1
          obtain ⟨d2, z2, D2⟩ := hi 2 z rfl
          cases z2
          refine iteF ⟨_, rfl, a, _, rfl, hs, rfl, _, _, rfl, _, _, rfl, _, _, rfl, ?_⟩
          refine ⟨rfl, ?_⟩
          have lx := pl.length
          refine ⟨_, rfl, _, rfl, wa, _, rfl, .inl hw, _, _, rfl, rfl, y, m, _, rfl, D1, _, rfl, ?_⟩
          rw [show (xs.length : Int) - 1 = (walk.length : Int) - 1 by rw [lx]]
          have q : ∀ H', Same H H' → Q (.bl (numD ((walk.length : Int) - 1) m && numD ((toNatD m : Int) - 1) k && numD (((walk.getD (toNatD k) []).length : Nat) : Int) n && coreB walk (toNatD k) (toNatD m) (toNatD n) (jointsOf rss))) H' := q
          have go := q H (Same.refl H)
          cases hm : numD ((walk.length : Int) - 1) m with
          | false =>
            rw [hm] at go
            exact iteT (iteT go)
          | true =>
            have hmi : ∃ j : Nat, m = .int (j : Int) ∧ j < walk.length := by
              cases m with
              | int j =>
                simp only [numD, Bool.and_eq_true, decide_eq_true_eq] at hm
                exact ⟨j.toNat, by rw [Int.toNat_of_nonneg hm.1], by omega⟩
              | _ => simp [numD] at hm
            obtain ⟨j, rfl, hj⟩ := hmi
            have e := D1.int_v
            subst e
            rw [hm] at q go
            have et : toNatD (.int (j : Int)) = j := rfl
            rw [et] at q go
            refine iteF ⟨_, rfl, _, rfl, _, _, rfl, rfl, x, k, _, rfl, D0, _, rfl, ?_⟩
            cases hk : numD ((j : Int) - 1) k with
            | false =>
              rw [hk] at go
              exact iteT go
            | true =>
              have hki : ∃ i : Nat, k = .int (i : Int) ∧ i < j := by
                cases k with
                | int i =>
                  simp only [numD, Bool.and_eq_true, decide_eq_true_eq] at hk
                  exact ⟨i.toNat, by rw [Int.toNat_of_nonneg hk.1], by omega⟩
                | _ => simp [numD] at hk
              obtain ⟨i, rfl, hij⟩ := hki
              have e := D0.int_v
              subst e
              rw [hk] at q go
              have et2 : toNatD (.int (i : Int)) = i := rfl
              rw [et2] at q go
              obtain ⟨vi, evi⟩ : ∃ v, xs[i]? = some v := ⟨_, List.getElem?_eq_getElem (by omega)⟩
              obtain ⟨wi, ewi, pi, rfl, hpi⟩ := pair_get pl evi
              have egd : walk.getD i [] = wi := by rw [List.getD_eq_getElem?_getD, ewi]; rfl
              rw [egd] at q go
              refine iteF ⟨_, rfl, _, rfl, _, rfl, wa, xs, _, _, rfl, rfl, hw, at_of (j := i) rfl evi, pi, _, rfl, .inr hpi, z, n, _, rfl, D2, _, rfl, ?_⟩
              rw [List.length_map]
              cases hn2 : numD ((wi.length : Nat) : Int) n with
              | false =>
                rw [hn2] at go
                exact iteT go
              | true =>
                have hni : ∃ c : Nat, n = .int (c : Int) := by
                  cases n with
                  | int i =>
                    simp only [numD, Bool.and_eq_true, decide_eq_true_eq] at hn2
                    exact ⟨i.toNat, by rw [Int.toNat_of_nonneg hn2.1]⟩
                  | _ => simp [numD] at hn2
                obtain ⟨c, rfl⟩ := hni
                have e := D2.int_v
                subst e
                rw [hn2] at q
                have et3 : toNatD (.int (c : Int)) = c := rfl
                rw [et3] at q
                have q : ∀ H', Same H H' → Q (.bl (coreB walk i j c (jointsOf rss))) H' := q
                refine iteF ⟨_, rfl, _, rfl, _, rfl, _, rfl, _, _, rfl, rfl, _, rfl, wa, xs, rfl, hw, fun sl hsl => ?_⟩
                rw [cut_mid xs (Nat.le_of_lt hij) (by omega)]
                have s1 := Same.new (o := .lst ((xs.drop i).take (j + 1 - i))) hsl
                have ks := upd_same (H := H) (a := sl) (o := .lst ((xs.drop i).take (j + 1 - i)))
                have plP : Places K H ((xs.drop i).take (j + 1 - i)) (partOf walk i j) := pd_take _ (pd_drop _ pl)
                have lp := part_len walk (i := i) hj
                have lowP : ∀ a ∈ partOf walk i j, LowW a := fun a ha => low a (List.mem_of_mem_drop (List.mem_of_mem_take ha))
                generalize (xs.drop i).take (j + 1 - i) = vp at s1 ks plP ⊢
                generalize hpart : partOf walk i j = part at plP lp lowP
                have plP1 : Places K (upd H sl (.lst vp)) vp part := Paired.mono (fun _ _ ⟨b, e, t⟩ => ⟨b, e, same_T s1 t⟩) plP
                generalize upd H sl (.lst vp) = G1 at s1 ks plP1 ⊢
                have lvp := plP.length
                refine ⟨sl, rfl, ⟨_, .of ks⟩, fun D5 hD5 => ?_⟩
                refine lc_list (K := K) (a := sl) (xs := vp) (fun i G => Same G1 G ∧ G D5 = some (.lst (vp.take i))) ⟨Same.new hD5, upd_same⟩ (fun i G _ z => z.1.seq (.of ks)) ?_ ?_
                · rintro i2 v G hv ⟨sG, kD⟩
                  obtain ⟨wv, ev, pv, rfl, hpv⟩ := pair_get plP1 hv
                  dsimp only [tYes]
                  have hi2 := (List.getElem?_eq_some_iff.mp hv).1
                  refine ⟨rfl, iteT ⟨_, rfl, pv, _, rfl, .inr ⟨same_T sG hpv, vp.take i2, kD, Nat.lt_of_le_of_lt (show (vp.take i2).length ≤ 100 by rw [List.length_take]; omega) (by decide), fun b o e => (upd_ne (ne_of_none e hD5)).trans (sG b o e), ?_⟩⟩⟩
                  rw [upd_same, List.take_add_one, hv]
                  rfl
                · rintro G ⟨sG, kD⟩
                  rw [List.take_of_length_le (Nat.le_refl _)] at kD
                  have s01 := s1.trans sG
                  have plG : Places K G vp part := Paired.mono (fun _ _ ⟨b, e, t⟩ => ⟨b, e, same_T sG t⟩) plP1
                  obtain ⟨v0, e0⟩ : ∃ v, vp[0]? = some v := ⟨_, List.getElem?_eq_getElem (by omega)⟩
                  obtain ⟨vl, el⟩ : ∃ v, vp[vp.length - 1]? = some v := ⟨_, List.getElem?_eq_getElem (by omega)⟩
                  obtain ⟨zl, ezl, pzl, rfl, hzl⟩ := pair_get plG el
                  obtain ⟨z0, ez0, pz0, rfl, hz0⟩ := pair_get plG e0
                  have ne : part ≠ [] := fun e => by
                    rw [e] at ez0
                    cases ez0
                  have eh : part.headD [] = z0 := by
                    cases part with
                    | nil => exact absurd rfl ne
                    | cons x y => exact Option.some.inj ez0
                  have et : part.getLastD [] = zl := by
                    rw [List.getLastD_eq_getLast?, List.getLast?_eq_getElem?, ← lvp, ezl]
                    rfl
                  have eC : coreB walk i j c (jointsOf rss) = if z0 = zl ∧ c = z0.length then true else repB part c (jointsOf rss) := by
                    unfold coreB
                    simp only [hpart, eh, et]
                  rw [eC] at q
                  have kDs : SqL K G D5 vp := .of kD
                  refine ⟨_, rfl, D5, vp, _, _, rfl, rfl, kDs, at_of (j := 0) rfl e0, _, rfl, _, rfl, D5, vp, _, _, rfl, rfl, kDs, at_last (by omega) el, ?_⟩
                  refine ⟨_, _, dp_wt hz0, dp_wt hzl, shaped_wt (lowP _ (List.mem_of_getElem? ez0)), shaped_wt (lowP _ (List.mem_of_getElem? ezl)), _, rfl, ?_⟩
                  rw [eqv_wt]
                  have rep : ¬ (z0 = zl ∧ c = z0.length) → tDf (spRep P w K) (tCons (tVar 6) (tCons (tVar 5) (tCons (tDf (spJFB P w K CT) (tCons (tVar 2) tNil)) tNil))) [some (.ref a), some (.ref wa), some (.ref ta), some (.int (i : Int)), some (.int (j : Int)), some (.int (c : Int)), some (.ref D5), none] G Q := fun no2 => by
                    rw [if_neg no2] at q
                    refine ⟨_, rfl, _, rfl, _, rfl, ?_⟩
                    have go2 : ∀ D H' rows, G D = none → Same G H' → JD P w K H' D rows (jointsOf rss) → spRep P w K [.ref D5, .int (c : Int), .ref D] H' Q E0 := fun D H' rows _ sH jd =>
                      ⟨D5, D, vp, part, c, rows, jointsOf rss, rfl, sH.seq kDs, Paired.mono (fun _ _ ⟨b, e, t⟩ => ⟨b, e, same_T sH t⟩) plG, ne, by omega, lowP, jd, fun H2 s2 => q _ (s01.trans (sH.trans s2))⟩
                    rcases ht with ht | ht
                    · exact .inl ⟨ta, ts, rss, rfl, s01.seq ht, hT.same s01, hn, fun D H' rows n sH jd => go2 D H' rows n sH jd⟩
                    · exact .inr ⟨ta, ts, rss, rfl, same_T s01 ht, hT.same s01, hn, fun D H' rows n sH jd => go2 D H' rows n sH jd⟩
                  by_cases h1 : z0 = zl
                  · rw [decide_eq_true h1]
                    refine iteT ⟨_, rfl, _, rfl, D5, vp, _, _, rfl, rfl, kDs, at_of (j := 0) rfl e0, pz0, _, rfl, .inr hz0, rfl, _, rfl, ?_⟩
                    rw [List.length_map]
                    by_cases h2 : c = z0.length
                    · rw [decide_eq_true (by rw [h2])]
                      refine iteT ?_
                      have := q _ s01
                      rw [if_pos ⟨h1, h2⟩] at this
                      exact this
                    · rw [decide_eq_false (fun e => by injection e with e; exact h2 (by omega))]
                      exact iteF (rep fun h => h2 h.2)
                  · rw [decide_eq_false h1]
                    exact iteF (iteF (rep fun h => h1 h.1))
    | _ => exact iteT (iteT (noQ rfl))
end
end K28
namespace K28
open PySem L2 Ld PyProof.Rows
section
variable {P : Program} {w : World} {K : PySem.W.Frag} {mg : Str → Option Value} {base : Heap} {f : Addr} {fd : FuncData} {CT : Addr}
def spRoundT (P : Program) (w : World) (K : PySem.W.Frag) (CT : Addr) : Sp := fun vs H Q _ => ∃ (v : V) (d : PyData) (wa ta : Addr) (xs ts : List V) (walk : List (List Str)) (rss : List (List Rl)), vs = [v, .ref wa, .ref ta] ∧ Dd K H v d ∧ SqT K H wa xs ∧ Places K H xs walk ∧ walk.length ≤ 100 ∧ (∀ a ∈ walk, LowW a) ∧
  (SqL K H ta ts ∨ SqT K H ta ts) ∧ Tabs P w K CT H ts rss ∧ rss.flatten.length ≤ 150 ∧ ∀ H', Same H H' → Q (.bl (roundD walk (jointsOf rss) d)) H'
theorem ok_roundT (Fd : Fun K "is_round" "is_round" sRound f fd) (T : Tx mg) (DN : Df P w K mg base 1 "is_number_to" ["value", "highest"] (spNum K)) (DJ : Df P w K mg base 3 "joints_found" ["tables"] (spJFB P w K CT)) (DR : Df P w K mg base 2 "_can_be_repeated" ["part", "size", "places"] (spRep P w K)) :
    FnOk P w K mg base CX0 4 f fd ["value", "walk", "tables"] (spRoundT P w K CT) := by
  refine Fd.ok scRound (fun vs H Q E h => ?_) (fun cdv A outer s H vs Q E hr h => ?_)
  · obtain ⟨v, d, wa, ta, xs, ts, walk, rss, rfl, _⟩ := h
    rfl
  · obtain ⟨v, d, wa, ta, xs, ts, walk, rss, rfl, hD, hw, pl, hlen, low, ht, hT, hn, q⟩ := h
    have nd := scRound.nd
    refine ⟨_, pss_cons (ps_if (PW.pt (pw_or (pt_not (pt_val (pe_callB (call_isa "tuple") (by rfl) T.isi bootN (pa_cons (pv 0) (pa_cons (pe_bltn (v := .ty "tuple") (by rfl) T.tuple (by decide +kernel) rfl) pa_nil)))))
        (pw_or1 (pt_cmpR op_ne (pe_callB call_len_seq (by rfl) T.len PySem.boot_len (pa_cons (pv 0) pa_nil)) pe_int (nomark _))))) (pss_one (ps_ret pe_bl)) pss_nil)
      (pss_cons (ps_asg (pv 0) (pg_tup rfl (pgs_cons (pg_name (i := 3) nd rfl (Or.inl rfl)) (pgs_cons (pg_name (i := 4) nd rfl (Or.inl rfl)) (pgs_cons (pg_name (i := 5) nd rfl (Or.inl rfl)) pgs_nil)))))
      (pss_cons (ps_if (PW.pt (pw_or (pt_not (pt_val (pe_df DN hr (pa_cons (pv 4) (pa_cons (pe_op op_sub (pe_callB call_len_seq (by rfl) T.len PySem.boot_len (pa_cons (pv 1) pa_nil)) pe_int) pa_nil)))))
        (pw_or1 (pt_not (pt_val (pe_df DN hr (pa_cons (pv 3) (pa_cons (pe_op op_sub (pv 4) pe_int) pa_nil)))))))) (pss_one (ps_ret pe_bl)) pss_nil)
      (pss_cons (ps_if (pt_not (pt_val (pe_df DN hr (pa_cons (pv 5) (pa_cons (pe_callB call_len_seq (by rfl) T.len PySem.boot_len (pa_cons (pe_ix ix_tup (pv 1) (pv 3) (fun _ _ => rfl)) pa_nil)) pa_nil))))) (pss_one (ps_ret pe_bl)) pss_nil)
      (pss_cons (ps_setLc (i := 6) (own := [("address", 7)]) (g := gName 7) (tt := tYes) (by rfl) nd rfl rfl (sw_true rfl rfl rfl rfl) (pi_tup (pe_slice (r := rSlW K) sl_tupK (pv 1) (po_some (pv 3)) (po_some (pe_op op_add (pv 4) pe_int)))) (blkOk_by (own := [("address", 7)]) (N := rouN) (sc := defScope sRound) (by decide +kernel))
          (fun _ _ _ _ _ => pg_name (i := 7) nd rfl (Or.inl rfl)) (fun _ _ _ _ _ => pts_nil) (fun _ _ _ _ _ => pe_callTy (T := "tuple") (r := rTup K) call_tupK (by rfl) T.tuple (by decide +kernel) (pa_cons (pv 7) pa_nil)))
      (pss_cons (ps_if (PW.pt (pw_and (pt_cmpR (op_eqD hr.units) (pe_ix ix_list (pv 6) pe_int (fun _ _ => rfl)) (pe_ix ix_list (pv 6) (pe_un un_neg pe_int) (fun _ _ => rfl)) (by rfl)) (pw_and1 (pt_cmpR op_eq (pv 5) (pe_callB call_len_seq (by rfl) T.len PySem.boot_len (pa_cons (pe_ix ix_list (pv 6) pe_int (fun _ _ => rfl)) pa_nil)) (nomark _))))) (pss_one (ps_ret pe_bl)) pss_nil)
      (pss_one (ps_ret (pe_df DR hr (pa_cons (pv 6) (pa_cons (pv 5) (pa_cons (pe_df DJ hr (pa_cons (pv 2) pa_nil)) pa_nil))))))))))), ?_⟩
    refine ⟨_, rfl, _, rfl, _, _, hD.ty, kit_tuple d, _, rfl, ?_⟩
    have noQ : roundD walk (jointsOf rss) d = false → Q (.bl false) H := fun e => by
      have := q H (Same.refl H)
      rw [e] at this
      exact this
    cases d with
    | tuple ds =>
      obtain ⟨a, vs, rfl, hs, hl2, hi⟩ := hD.its
      refine iteF ⟨_, rfl, a, _, rfl, .inr hs, rfl, _, rfl, ?_⟩
      show if (!decide (V.int (vs.length : Int) = V.int ((3 : Nat) : Int))) = true then _ else _
      rw [len_is, hl2]
      match ds, hl2, hi, q, noQ with
      | [], _, _, _, no => exact iteT (no rfl)
      | [_], _, _, _, no => exact iteT (no rfl)
      | [_, _], _, _, _, no => exact iteT (no rfl)
      | k :: n :: m :: b :: r2, _, _, _, no =>
        rw [decide_eq_false (by simp)]
        exact iteT (no rfl)
      | [k, m, n], hl2, hi, q, no =>
        match vs, hl2, hs, hi with
        | [x, y, z], _, hs, hi =>
          obtain ⟨d0, z0, D0⟩ := hi 0 x rfl
          cases z0
          obtain ⟨d1, z1, D1⟩ := hi 1 y rfl
          cases z1
          obtain ⟨d2, z2, D2⟩ := hi 2 z rfl
          cases z2
          refine iteF ⟨_, rfl, a, _, rfl, hs, rfl, _, _, rfl, _, _, rfl, _, _, rfl, ?_⟩
          refine ⟨rfl, ?_⟩
          have lx := pl.length
          refine ⟨_, rfl, _, rfl, wa, _, rfl, .inr hw, _, _, rfl, rfl, y, m, _, rfl, D1, _, rfl, ?_⟩
          rw [show (xs.length : Int) - 1 = (walk.length : Int) - 1 by rw [lx]]
          have q : ∀ H', Same H H' → Q (.bl (numD ((walk.length : Int) - 1) m && numD ((toNatD m : Int) - 1) k && numD (((walk.getD (toNatD k) []).length : Nat) : Int) n && coreB walk (toNatD k) (toNatD m) (toNatD n) (jointsOf rss))) H' := q
          have go := q H (Same.refl H)
          cases hm : numD ((walk.length : Int) - 1) m with
          | false =>
            rw [hm] at go
            exact iteT (iteT go)
          | true =>
            have hmi : ∃ j : Nat, m = .int (j : Int) ∧ j < walk.length := by
              cases m with
              | int j =>
                simp only [numD, Bool.and_eq_true, decide_eq_true_eq] at hm
                exact ⟨j.toNat, by rw [Int.toNat_of_nonneg hm.1], by omega⟩
              | _ => simp [numD] at hm
            obtain ⟨j, rfl, hj⟩ := hmi
            have e := D1.int_v
            subst e
            rw [hm] at q go
            have et : toNatD (.int (j : Int)) = j := rfl
            rw [et] at q go
            refine iteF ⟨_, rfl, _, rfl, _, _, rfl, rfl, x, k, _, rfl, D0, _, rfl, ?_⟩
            cases hk : numD ((j : Int) - 1) k with
            | false =>
              rw [hk] at go
              exact iteT go
            | true =>
              have hki : ∃ i : Nat, k = .int (i : Int) ∧ i < j := by
                cases k with
                | int i =>
                  simp only [numD, Bool.and_eq_true, decide_eq_true_eq] at hk
                  exact ⟨i.toNat, by rw [Int.toNat_of_nonneg hk.1], by omega⟩
                | _ => simp [numD] at hk
              obtain ⟨i, rfl, hij⟩ := hki
              have e := D0.int_v
              subst e
              rw [hk] at q go
              have et2 : toNatD (.int (i : Int)) = i := rfl
              rw [et2] at q go
              obtain ⟨vi, evi⟩ : ∃ v, xs[i]? = some v := ⟨_, List.getElem?_eq_getElem (by omega)⟩
              obtain ⟨wi, ewi, pi, rfl, hpi⟩ := pair_get pl evi
              have egd : walk.getD i [] = wi := by rw [List.getD_eq_getElem?_getD, ewi]; rfl
              rw [egd] at q go
              refine iteF ⟨_, rfl, _, rfl, _, rfl, wa, xs, _, _, rfl, rfl, hw, at_of (j := i) rfl evi, pi, _, rfl, .inr hpi, z, n, _, rfl, D2, _, rfl, ?_⟩
              rw [List.length_map]
              cases hn2 : numD ((wi.length : Nat) : Int) n with
              | false =>
                rw [hn2] at go
                exact iteT go
              | true =>
                have hni : ∃ c : Nat, n = .int (c : Int) := by
                  cases n with
                  | int i =>
                    simp only [numD, Bool.and_eq_true, decide_eq_true_eq] at hn2
                    exact ⟨i.toNat, by rw [Int.toNat_of_nonneg hn2.1]⟩
                  | _ => simp [numD] at hn2
                obtain ⟨c, rfl⟩ := hni
                have e := D2.int_v
                subst e
                rw [hn2] at q
                have et3 : toNatD (.int (c : Int)) = c := rfl
                rw [et3] at q
                have q : ∀ H', Same H H' → Q (.bl (coreB walk i j c (jointsOf rss))) H' := q
                refine iteF ⟨_, rfl, _, rfl, _, rfl, _, rfl, _, _, rfl, rfl, _, rfl, wa, xs, rfl, hw, fun sl G1 s1 ks => ?_⟩
                rw [cut_mid xs (Nat.le_of_lt hij) (by omega)] at ks
                have plP : Places K H ((xs.drop i).take (j + 1 - i)) (partOf walk i j) := pd_take _ (pd_drop _ pl)
                have lp := part_len walk (i := i) hj
                have lowP : ∀ a ∈ partOf walk i j, LowW a := fun a ha => low a (List.mem_of_mem_drop (List.mem_of_mem_take ha))
                generalize (xs.drop i).take (j + 1 - i) = vp at ks plP ⊢
                generalize hpart : partOf walk i j = part at plP lp lowP
                have plP1 : Places K G1 vp part := Paired.mono (fun _ _ ⟨b, e, t⟩ => ⟨b, e, same_T s1 t⟩) plP
                have lvp := plP.length
                refine ⟨sl, rfl, ⟨_, ks⟩, fun D5 hD5 => ?_⟩
                refine lc_tup (K := K) (a := sl) (xs := vp) (fun i G => Same G1 G ∧ G D5 = some (.lst (vp.take i))) ⟨Same.new hD5, upd_same⟩ (fun i G _ z => same_T z.1 ks) ?_ ?_
                · rintro i2 v G hv ⟨sG, kD⟩
                  obtain ⟨wv, ev, pv, rfl, hpv⟩ := pair_get plP1 hv
                  dsimp only [tYes]
                  have hi2 := (List.getElem?_eq_some_iff.mp hv).1
                  refine ⟨rfl, iteT ⟨_, rfl, pv, _, rfl, .inr ⟨same_T sG hpv, vp.take i2, kD, Nat.lt_of_le_of_lt (show (vp.take i2).length ≤ 100 by rw [List.length_take]; omega) (by decide), fun b o e => (upd_ne (ne_of_none e hD5)).trans (sG b o e), ?_⟩⟩⟩
                  rw [upd_same, List.take_add_one, hv]
                  rfl
                · rintro G ⟨sG, kD⟩
                  rw [List.take_of_length_le (Nat.le_refl _)] at kD
                  have s01 := s1.trans sG
                  have plG : Places K G vp part := Paired.mono (fun _ _ ⟨b, e, t⟩ => ⟨b, e, same_T sG t⟩) plP1
                  obtain ⟨v0, e0⟩ : ∃ v, vp[0]? = some v := ⟨_, List.getElem?_eq_getElem (by omega)⟩
                  obtain ⟨vl, el⟩ : ∃ v, vp[vp.length - 1]? = some v := ⟨_, List.getElem?_eq_getElem (by omega)⟩
                  obtain ⟨zl, ezl, pzl, rfl, hzl⟩ := pair_get plG el
                  obtain ⟨z0, ez0, pz0, rfl, hz0⟩ := pair_get plG e0
                  have ne : part ≠ [] := fun e => by
                    rw [e] at ez0
                    cases ez0
                  have eh : part.headD [] = z0 := by
                    cases part with
                    | nil => exact absurd rfl ne
                    | cons x y => exact Option.some.inj ez0
                  have et : part.getLastD [] = zl := by
                    rw [List.getLastD_eq_getLast?, List.getLast?_eq_getElem?, ← lvp, ezl]
                    rfl
                  have eC : coreB walk i j c (jointsOf rss) = if z0 = zl ∧ c = z0.length then true else repB part c (jointsOf rss) := by
                    unfold coreB
                    simp only [hpart, eh, et]
                  rw [eC] at q
                  have kDs : SqL K G D5 vp := .of kD
                  refine ⟨_, rfl, D5, vp, _, _, rfl, rfl, kDs, at_of (j := 0) rfl e0, _, rfl, _, rfl, D5, vp, _, _, rfl, rfl, kDs, at_last (by omega) el, ?_⟩
                  refine ⟨_, _, dp_wt hz0, dp_wt hzl, shaped_wt (lowP _ (List.mem_of_getElem? ez0)), shaped_wt (lowP _ (List.mem_of_getElem? ezl)), _, rfl, ?_⟩
                  rw [eqv_wt]
                  have rep : ¬ (z0 = zl ∧ c = z0.length) → tDf (spRep P w K) (tCons (tVar 6) (tCons (tVar 5) (tCons (tDf (spJFB P w K CT) (tCons (tVar 2) tNil)) tNil))) [some (.ref a), some (.ref wa), some (.ref ta), some (.int (i : Int)), some (.int (j : Int)), some (.int (c : Int)), some (.ref D5), none] G Q := fun no2 => by
                    rw [if_neg no2] at q
                    refine ⟨_, rfl, _, rfl, _, rfl, ?_⟩
                    have go2 : ∀ D H' rows, G D = none → Same G H' → JD P w K H' D rows (jointsOf rss) → spRep P w K [.ref D5, .int (c : Int), .ref D] H' Q E0 := fun D H' rows _ sH jd =>
                      ⟨D5, D, vp, part, c, rows, jointsOf rss, rfl, sH.seq kDs, Paired.mono (fun _ _ ⟨b, e, t⟩ => ⟨b, e, same_T sH t⟩) plG, ne, by omega, lowP, jd, fun H2 s2 => q _ (s01.trans (sH.trans s2))⟩
                    rcases ht with ht | ht
                    · exact .inl ⟨ta, ts, rss, rfl, s01.seq ht, hT.same s01, hn, fun D H' rows n sH jd => go2 D H' rows n sH jd⟩
                    · exact .inr ⟨ta, ts, rss, rfl, same_T s01 ht, hT.same s01, hn, fun D H' rows n sH jd => go2 D H' rows n sH jd⟩
                  by_cases h1 : z0 = zl
                  · rw [decide_eq_true h1]
                    refine iteT ⟨_, rfl, _, rfl, D5, vp, _, _, rfl, rfl, kDs, at_of (j := 0) rfl e0, pz0, _, rfl, .inr hz0, rfl, _, rfl, ?_⟩
                    rw [List.length_map]
                    by_cases h2 : c = z0.length
                    · rw [decide_eq_true (by rw [h2])]
                      refine iteT ?_
                      have := q _ s01
                      rw [if_pos ⟨h1, h2⟩] at this
                      exact this
                    · rw [decide_eq_false (fun e => by injection e with e; exact h2 (by omega))]
                      exact iteF (rep fun h => h2 h.2)
                  · rw [decide_eq_false h1]
                    exact iteF (iteF (rep fun h => h1 h.1))
    | _ => exact iteT (iteT (noQ rfl))
end
end K28
namespace K28
open PySem L2 Ld PyProof.Rows
abbrev sCor : Stmt := top 40
def ruleQ (r : Rl) : List (List Str) := (List.range (r.pl.length + if r.ex = true then 1 else 0)).map r.pl.take ++ if r.ex = true then [r.pl] else []
def lotsL (rss : List (List Rl)) : List (List Str) := [] :: rss.flatten.flatMap ruleQ
theorem ruleQ_len {r : Rl} (h : r.pl.length ≤ 4) : (ruleQ r).length ≤ 6 := by
  unfold ruleQ
  rw [List.length_append, List.length_map, List.length_range]
  split <;> simp <;> omega
theorem rulesQ_len : ∀ {rs : List Rl}, (∀ r ∈ rs, r.pl.length ≤ 4) → (rs.flatMap ruleQ).length ≤ 6 * rs.length
  | [], _ => Nat.le_refl _
  | r :: rs, h => by
    have h1 := ruleQ_len (h r List.mem_cons_self)
    have h2 := rulesQ_len fun t ht => h t (List.mem_cons_of_mem _ ht)
    rw [List.flatMap_cons, List.length_append, List.length_cons]
    omega
theorem mem_addJ {js : List (List Str)} {ws x : List Str} : x ∈ addJ js ws ↔ x ∈ js ∨ x = ws := by
  unfold addJ
  split
  · rename_i h
    exact ⟨fun z => .inl z, fun z => z.elim id fun e => e ▸ h⟩
  · simp
theorem mem_adds {x : List Str} : ∀ {xs js : List (List Str)}, x ∈ xs.foldl addJ js ↔ x ∈ js ∨ x ∈ xs
  | [], js => by simp
  | y :: xs, js => by
    rw [List.foldl_cons, mem_adds, mem_addJ]
    simp only [List.mem_cons]
    exact or_assoc
theorem mem_ruleJ {js : List (List Str)} {r : Rl} {x : List Str} : x ∈ ruleJ js r ↔ x ∈ js ∨ x ∈ begsOf r.pl.dropLast ∨ (r.ex = true ∧ x = r.pl) := by
  unfold ruleJ
  split
  · rename_i h
    rw [mem_addJ, mem_adds]
    simp [h, or_assoc]
  · rename_i h
    rw [mem_adds]
    simp [h]
theorem mem_tabJ {x : List Str} : ∀ {rs : List Rl} {js : List (List Str)}, x ∈ tabJ js rs ↔ x ∈ js ∨ ∃ r ∈ rs, x ∈ begsOf r.pl.dropLast ∨ (r.ex = true ∧ x = r.pl)
  | [], js => by simp [tabJ]
  | r :: rs, js => by
    have e : tabJ js (r :: rs) = tabJ (ruleJ js r) rs := rfl
    rw [e, mem_tabJ, mem_ruleJ]
    simp only [List.mem_cons, exists_eq_or_imp, or_assoc]
theorem mem_folds {x : List Str} : ∀ {rss : List (List Rl)} {js : List (List Str)}, x ∈ rss.foldl tabJ js ↔ x ∈ js ∨ ∃ r ∈ rss.flatten, x ∈ begsOf r.pl.dropLast ∨ (r.ex = true ∧ x = r.pl)
  | [], js => by simp
  | rs :: rss, js => by
    rw [List.foldl_cons, mem_folds, mem_tabJ, List.flatten_cons]
    simp only [List.mem_append, or_assoc]
    constructor
    · rintro (h | ⟨r, h1, h2⟩ | ⟨r, h1, h2⟩)
      · exact .inl h
      · exact .inr ⟨r, .inl h1, h2⟩
      · exact .inr ⟨r, .inr h1, h2⟩
    · rintro (h | ⟨r, h1 | h1, h2⟩)
      · exact .inl h
      · exact .inr (.inl ⟨r, h1, h2⟩)
      · exact .inr (.inr ⟨r, h1, h2⟩)
def corOf (rss : List (List Rl)) : List (List Str) := (rss.flatten.flatMap ruleQ).foldl addJ [[]]
section
variable {P : Program} {w : World} {K : PySem.W.Frag} {mg : Str → Option Value} {base : Heap} {f : Addr} {fd : FuncData}
/-- a list of lists of rules -/
def LotAt (K : PySem.W.Frag) (H : Hp) (v : V) (rs : List Rl) : Prop := ∃ r xs, v = V.ref r ∧ H r = some (.lst xs) ∧ Rules K H xs rs

def spCor (P : Program) (w : World) (K : PySem.W.Frag) : Sp := fun vs H Q _ => ∃ (a : Addr) (xs : List V) (rss : List (List Rl)), vs = [.ref a] ∧ SqL K H a xs ∧ Paired (LotAt K H) xs rss ∧ (∀ rs ∈ rss, ∀ r ∈ rs, r.pl.length ≤ 4) ∧ rss.flatten.length ≤ 100 ∧
  ∀ D H' rows, H D = none → Same H H' → JD P w K H' D rows (corOf rss) → Q (.ref D) H'
def corN : List Str := ["_law_tables", "_law_found", "_law_rules_here", "_law_sort", "_law_place_here", "_law_answer_here", "_law_count"]
theorem scCor : FnScope corN ["_law_tables"] (defScope sCor) := ⟨rfl, rfl, rfl, by decide +kernel, rfl, by decide +kernel, by decide +kernel⟩
theorem ok_cor (Fd : Fun K "_law_corners" "_law_corners" sCor f fd) (T : Tx mg) : FnOk P w K mg base CX0 1 f fd ["_law_tables"] (spCor P w K) := by
  refine Fd.ok scCor (fun vs H Q E h => ?_) (fun cdv A outer s H vs Q E hr h => ?_)
  · obtain ⟨a, xs, rss, rfl, _⟩ := h
    rfl
  · obtain ⟨a, xs, rss, rfl, ha, hP, h4, hn, q⟩ := h
    have nd := scCor.nd
    have hu16 : (A.deeper (envOfC "_law_corners" (defScope sCor) s.heap.objs.size f cdv)).units + 16 < cLine := Nat.lt_of_le_of_lt (Nat.add_le_add_left (by decide) _) hr.units
    refine ⟨_, pss_cons (ps_set (i := 1) nd rfl (Or.inl rfl) (pe_disp1NK (P := P) (w := w) (K := K) hu16 (pps_cons (pe_tup pa_nil) pe_bl pps_nil) rfl))
      (pss_cons (ps_for PassesOwn.never rfl (pi_list (pv 0)) (pg_name (i := 2) nd rfl (Or.inl rfl))
        (pss_one (ps_for PassesOwn.never rfl (pi_list (pv 2)) (pg_tup rfl (pgs_cons (pg_name (i := 3) nd rfl (Or.inl rfl)) (pgs_cons (pg_name (i := 4) nd rfl (Or.inl rfl)) (pgs_cons (pg_name (i := 5) nd rfl (Or.inl rfl)) pgs_nil))))
          (pss_cons (ps_for PassesOwn.never rfl (pi_range1 rfl T.range (pa_cons (pe_op op_add (pe_callB call_len_seq (by rfl) T.len PySem.boot_len (pa_cons (pv 4) pa_nil)) (pe_callTy call_int1 (by rfl) T.int (by decide +kernel) (pa_cons (pe_cmpR op_eq (pv 3) pe_str (nomark _)) pa_nil))) pa_nil)) (pg_name (i := 6) nd rfl (Or.inl rfl))
            (pss_one (ps_asg pe_bl (pg_sub (pv 1) (pe_slice (r := rSlW K) sl_tupK (pv 4) po_none (po_some (pv 6))) (pset_kdK (P := P) (w := w) (K := K) hu16)))))
          (pss_one (ps_if (pt_cmpR op_eq (pv 3) pe_str (nomark _)) (pss_one (ps_asg pe_bl (pg_sub (pv 1) (pv 4) (pset_kdK (P := P) (w := w) (K := K) hu16)))) pss_nil))))))
      (pss_one (ps_ret (pv 1)))), ?_⟩
    intro D hD low
    have s1 : Same H (upd H D (kdO P w D [])) := Same.new hD
    have z1 : (upd H D (kdO P w D [])) D = some (kdO P w D []) := upd_same
    refine ⟨(show 0 ≤ sizeLine by decide), fun kb hkb => ?_⟩
    have s2 := Same.new (o := .tup []) hkb
    have k2 := upd_same (H := upd H D (kdO P w D [])) (a := kb) (o := .tup [])
    have z2 := s2 _ _ z1
    have s12 := s1.trans s2
    generalize upd (upd H D (kdO P w D [])) kb (.tup []) = G2 at s2 k2 z2 s12 ⊢
    have nk : NIs K G2 (kA []) (.ref kb) := nis_ws (.of k2)
    refine ⟨kb, kA [], .bl true, rfl, nk, kA_deep _, z2, ?_⟩
    have J0 : JD P w K (upd G2 D (kdO P w D (kPut [] (kA []) kb (.bl true)))) D (kPut [] (kA []) kb (.bl true)) [[]] := jd_put (js := []) ⟨⟨z2, low, Nat.zero_le _, fun x hx => nomatch hx⟩, .nil⟩ (Nat.zero_le _) nk
    have stay : ∀ {G : Hp} {o : HO}, Same H G → Same H (upd G D o) := fun {G o} s c u e => by
      rw [upd_ne (ne_of_none e hD)]
      exact s c u e
    have s3 := stay (o := kdO P w D (kPut [] (kA []) kb (.bl true))) s12
    generalize upd G2 D (kdO P w D (kPut [] (kA []) kb (.bl true))) = G3 at J0 s3 ⊢
    generalize kPut [] (kA []) kb (.bl true) = rows0 at J0
    have sizes : ∀ {js : List (List Str)} {rows : List Rw} {G : Hp}, JD P w K G D rows js → rows.length = js.length := fun z => z.2.length
    have q6 : ∀ {rs : List Rl}, (∀ r ∈ rs, r.pl.length ≤ 4) → (rs.flatMap ruleQ).length ≤ 6 * rs.length := fun h => rulesQ_len h
    refine ⟨_, rfl, a, rfl, ⟨_, s3.seq ha⟩, for_list (K := K) (a := a) (xs := xs) (fun i σ G => ∃ u2 u3 u4 u5 u6 rows, σ = [some (.ref a), some (.ref D), u2, u3, u4, u5, u6] ∧ Same H G ∧ JD P w K G D rows (((rss.take i).flatten.flatMap ruleQ).foldl addJ [[]]))
      ⟨_, _, _, _, _, rows0, rfl, s3, J0⟩ (fun i σ G _ h => by obtain ⟨_, _, _, _, _, _, _, sG, _⟩ := h; exact sG.seq ha) ?_ ?_⟩
    · rintro i x σ G hx ⟨u2, u3, u4, u5, u6, rows, rfl, sG, jd⟩
      obtain ⟨rs, e1, l, zs, rfl, hl, hR⟩ := pair_get hP hx
      have hmem := List.mem_of_getElem? e1
      have hfl := flat_at e1
      have l0 := adds_len ((rss.take i).flatten.flatMap ruleQ) [[]]
      have l00 := q6 (rs := (rss.take i).flatten) fun r hr => by
        obtain ⟨ts, h1, h2⟩ := List.mem_flatten.mp hr
        exact h4 ts (List.mem_of_mem_take h1) r h2
      have tk : ((rss.take (i + 1)).flatten.flatMap ruleQ).foldl addJ [[]] = (rs.flatMap ruleQ).foldl addJ (((rss.take i).flatten.flatMap ruleQ).foldl addJ [[]]) := by
        rw [List.take_add_one, e1, List.flatten_append, List.flatMap_append, List.foldl_append]
        simp
      rw [tk]
      generalize ((rss.take i).flatten.flatMap ruleQ).foldl addJ [[]] = js0 at jd l0 ⊢
      have l1 : js0.length ≤ 1 + 6 * (rss.take i).flatten.length := Nat.le_trans l0 (by rw [List.length_singleton]; omega)
      refine ⟨_, rfl, l, rfl, ⟨_, .of (sG _ _ hl)⟩, for_list (K := K) (a := l) (xs := zs) (fun j σ G => ∃ u3 u4 u5 u6 rows, σ = [some (.ref a), some (.ref D), some (.ref l), u3, u4, u5, u6] ∧ Same H G ∧ JD P w K G D rows (((rs.take j).flatMap ruleQ).foldl addJ js0))
        ⟨_, _, _, _, rows, rfl, sG, jd⟩ (fun j σ G _ h => by obtain ⟨_, _, _, _, _, _, sG, _⟩ := h; exact .of (sG _ _ hl)) ?_ ?_⟩
      · rintro j y σ G hy ⟨u3, u4, u5, u6, rows, rfl, sG, jd⟩
        obtain ⟨r, er, ra, rp, rx, rfl, t1, t2, t3⟩ := hR.get hy
        have hr4 := h4 rs hmem r (List.mem_of_getElem? er)
        have hj : j < rs.length := (List.getElem?_eq_some_iff.mp er).1
        have l2 := adds_len ((rs.take j).flatMap ruleQ) js0
        have l22 := q6 (rs := rs.take j) fun r hr => h4 rs hmem r (List.mem_of_mem_take hr)
        have tk2 : ((rs.take (j + 1)).flatMap ruleQ).foldl addJ js0 = (ruleQ r).foldl addJ (((rs.take j).flatMap ruleQ).foldl addJ js0) := by
          rw [List.take_add_one, er, List.flatMap_append, List.foldl_append]
          simp
        rw [tk2]
        generalize ((rs.take j).flatMap ruleQ).foldl addJ js0 = js1 at jd l2 ⊢
        have l3 : js1.length ≤ 601 := by
          rw [List.length_take] at l22
          omega
        refine ⟨ra, _, rfl, same_T sG t1, rfl, _, _, rfl, _, _, rfl, _, _, rfl, rfl, ?_⟩
        have ec : (if decide (V.str (sortS r.ex) = V.str "exact") = true then (1 : Int) else 0) = ((if r.ex = true then 1 else 0 : Nat) : Int) := by
          cases r.ex <;> decide +kernel
        have tp := same_T sG t2
        refine ⟨_, rfl, rp, _, rfl, .inr tp, _, rfl, rfl, .inr ⟨_, rfl, _, _, rfl, rfl, ((r.pl.length + (if r.ex = true then 1 else 0) : Nat) : Int), ?_, by omega, ?_, for_range (lo := 0) (n := ((r.pl.length + (if r.ex = true then 1 else 0) : Nat) : Int).toNat) (fun k σ G => ∃ u6 rows, σ = [some (.ref a), some (.ref D), some (.ref l), some (.str (sortS r.ex)), some (.ref rp), some rx, u6] ∧ Same H G ∧ JD P w K G D rows ((((List.range (r.pl.length + if r.ex = true then 1 else 0)).map r.pl.take).take k).foldl addJ js1))
          ⟨_, rows, rfl, sG, jd⟩ ?_ ?_⟩⟩
        · rw [ec, List.length_map]
          congr 1
        · split <;> omega
        · rintro k σ G hk ⟨u6, rows, rfl, sG, jd⟩
          have hk2 : k < r.pl.length + if r.ex = true then 1 else 0 := by omega
          have at_ : ((List.range (r.pl.length + if r.ex = true then 1 else 0)).map r.pl.take)[k]? = some (r.pl.take k) := by
            rw [List.getElem?_map, List.getElem?_range hk2]
            rfl
          have l4 := adds_len (((List.range (r.pl.length + if r.ex = true then 1 else 0)).map r.pl.take).take k) js1
          have l5 := sizes jd
          have l6 : rows.length ≤ 700 := by
            rw [List.length_take, List.length_map, List.length_range] at l4
            have : (if r.ex = true then 1 else 0) ≤ 1 := by split <;> decide
            omega
          refine ⟨_, rfl, _, rfl, _, rfl, _, rfl, rp, _, rfl, same_T sG t2, fun p G2 s2 hp => ?_⟩
          have e1 : cutV (r.pl.map V.str) none (some (0 + (k : Int))) = (r.pl.take k).map V.str := by
            rw [show (0 + (k : Int)) = ((k : Nat) : Int) by omega, cut_lo]
          rw [e1] at hp
          have jd2 := jd.same s2
          refine ⟨p, D, kA (r.pl.take k), rows, rfl, rfl, nis_ws hp, kA_deep _, jd2.1, ?_⟩
          have jp := jd_put (v := .bl true) jd2 (by omega) (nis_ws hp)
          have e9 : (((List.range (r.pl.length + if r.ex = true then 1 else 0)).map r.pl.take).take (k + 1)).foldl addJ js1 = addJ ((((List.range (r.pl.length + if r.ex = true then 1 else 0)).map r.pl.take).take k).foldl addJ js1) (r.pl.take k) := by
            rw [List.take_add_one, at_, List.foldl_append]
            rfl
          rw [← e9] at jp
          exact ⟨_, _, rfl, stay (sG.trans s2), jp⟩
        · rintro σ G ⟨u6, rows, rfl, sG, jd⟩
          rw [List.take_of_length_le (by rw [List.length_map, List.length_range]; omega)] at jd
          have l4 := adds_len ((List.range (r.pl.length + if r.ex = true then 1 else 0)).map r.pl.take) js1
          have l5 := sizes jd
          have l6 : rows.length ≤ 700 := by
            rw [List.length_map, List.length_range] at l4
            have : (if r.ex = true then 1 else 0) ≤ 1 := by split <;> decide
            omega
          refine ⟨_, rfl, rfl, _, rfl, ?_⟩
          unfold ruleQ
          rw [List.foldl_append]
          cases hex : r.ex with
          | true =>
            rw [hex] at jd
            refine iteT ⟨_, rfl, _, rfl, rp, D, kA r.pl, rows, rfl, rfl, nis_ws (same_T sG t2), kA_deep _, jd.1, ?_⟩
            have jp := jd_put (v := .bl true) jd (by omega) (nis_ws (same_T sG t2))
            exact ⟨_, _, _, _, _, rfl, stay sG, jp⟩
          | false =>
            rw [hex] at jd
            exact iteF ⟨_, _, _, _, rows, rfl, sG, jd⟩
      · rintro σ G ⟨u3, u4, u5, u6, rows, rfl, sG, jd⟩
        have lr := hR.length
        rw [List.take_of_length_le (by omega)] at jd
        exact ⟨_, _, _, _, _, rows, rfl, sG, jd⟩
    · rintro σ G ⟨u2, u3, u4, u5, u6, rows, rfl, sG, jd⟩
      have lx := Paired.length hP
      rw [List.take_of_length_le (by omega)] at jd
      exact ⟨_, rfl, q D G rows hD sG jd⟩
end
end K28
namespace K28
open PySem L2 Ld PyProof.Rows
abbrev sLR : Stmt := top 41
/-! ### the law's own judge -/
def lawR (rest : List Str) (part : List (List Str)) (n : Nat) (js : List (List Str)) : Bool :=
  part.all (endsB rest) && ((part.map (frontOf rest)).dropLast.all fun z => decide (z ∉ js)) && decide ((frontOf rest (part.getLastD [])).take n = (part.headD []).take n)
def lawB (part : List (List Str)) (n : Nat) (js : List (List Str)) : Bool :=
  if part.headD [] = part.getLastD [] ∧ n = (part.headD []).length then true else if (part.headD []).length < n then false else lawR (restOf part n) part n js
theorem part_at (walk : List (List Str)) {i j t : Nat} (h : t < j + 1 - i) : (partOf walk i j)[t]? = walk[i + t]? := by
  unfold partOf
  rw [List.getElem?_take, if_pos h, List.getElem?_drop]
theorem headD_of {l : List (List Str)} {z : List Str} (h : l[0]? = some z) : l.headD [] = z := by
  cases l with
  | nil => cases h
  | cons x y => exact Option.some.inj h
theorem lastD_of {l : List (List Str)} {z : List Str} (h : l[l.length - 1]? = some z) : l.getLastD [] = z := by
  rw [List.getLastD_eq_getLast?, List.getLast?_eq_getElem?, h]
  rfl
section
variable {P : Program} {w : World} {K : PySem.W.Frag} {mg : Str → Option Value} {base : Heap} {f : Addr} {fd : FuncData}
def tSameI (K : PySem.W.Frag) : TT := fun σ H Q => ∃ (p r : Addr) (us vs : List Str) (n : Nat), σ[6]? = some (some (.ref p)) ∧ σ[7]? = some (some (.ref r)) ∧ σ[2]? = some (some (.int (n : Int))) ∧ SqT K H p (us.map V.str) ∧ SqT K H r (vs.map V.str) ∧ LowW us ∧ LowW vs ∧ Q (decide (us = vs ∧ n = us.length)) H
def spLR (P : Program) (w : World) (K : PySem.W.Frag) : Sp := fun vs H Q _ => ∃ (wa pa D : Addr) (xs : List V) (walk : List (List Str)) (i j n : Nat) (rows : List Rw) (js : List (List Str)), vs = [.ref wa, .ref pa, .int (n : Int), .ref D] ∧ SqL K H wa xs ∧ Places K H xs walk ∧ SqT K H pa [.int (i : Int), .int (j : Int)] ∧ i < j ∧ j < walk.length ∧ walk.length ≤ 100 ∧ (∀ a ∈ walk, LowW a) ∧
  JD P w K H D rows js ∧ ∀ H', Same H H' → Q (.bl (lawB (partOf walk i j) n js)) H'
def lrN : List Str := ["_law_walk", "_law_places", "_law_size", "_law_corners_here", "_law_first", "_law_last", "_law_one", "_law_two", "_law_rest", "_law_at", "_law_count"]
theorem scLR : FnScope lrN ["_law_walk", "_law_places", "_law_size", "_law_corners_here"] (defScope sLR) := ⟨rfl, rfl, rfl, by decide +kernel, rfl, by decide +kernel, by decide +kernel⟩
theorem ok_lr (Fd : Fun K "_law_is_round" "_law_is_round" sLR f fd) (T : Tx mg) : FnOk P w K mg base CX0 1 f fd ["_law_walk", "_law_places", "_law_size", "_law_corners_here"] (spLR P w K) := by
  refine Fd.ok scLR (fun vs H Q E h => ?_) (fun cdv A outer s H vs Q E hr h => ?_)
  · obtain ⟨wa, pa, D, xs, walk, i, j, n, rows, js, rfl, _⟩ := h
    rfl
  · obtain ⟨wa, pa, D, xs, walk, i, j, n, rows, js, rfl, hw, pl, hpa, hij, hj, hlen, low, jd, q⟩ := h
    have nd := scLR.nd
    have hu16 : (A.deeper (envOfC "_law_is_round" (defScope sLR) s.heap.objs.size f cdv)).units + 16 < cLine := Nat.lt_of_le_of_lt (Nat.add_le_add_left (by decide) _) hr.units
    refine ⟨_, pss_cons (ps_asg (pv 1) (pg_tup rfl (pgs_cons (pg_name (i := 4) nd rfl (Or.inl rfl)) (pgs_cons (pg_name (i := 5) nd rfl (Or.inl rfl)) pgs_nil))))
      (pss_cons (ps_par (i := 6) (j := 7) (by rfl) nd rfl rfl (by decide) rfl rfl (pa_cons (pe_ix ix_list (pv 0) (pv 4) (fun _ _ => rfl)) (pa_cons (pe_ix ix_list (pv 0) (pv 5) (fun _ _ => rfl)) pa_nil)) (by rfl))
      (pss_cons (ps_if (PT.conv (t := tSameI K) (PW.pt (pw_and (pt_cmpR (op_eqD hr.units) (pv 6) (pv 7) (nomark _)) (pw_and1 (pt_cmpR op_eq (pv 2) (pe_callB call_len_seq (by rfl) T.len PySem.boot_len (pa_cons (pv 6) pa_nil)) (nomark _))))) ?cS) (pss_one (ps_ret pe_bl)) pss_nil)
      (pss_cons (ps_if (pt_cmpR op_gt (pv 2) (pe_callB call_len_seq (by rfl) T.len PySem.boot_len (pa_cons (pv 6) pa_nil)) (nomark _)) (pss_one (ps_ret pe_bl)) pss_nil)
      (pss_cons (ps_set (i := 8) nd rfl (Or.inl rfl) (pe_slice (r := rSlW K) sl_tupK (pv 6) (po_some (pv 2)) po_none))
      (pss_cons (ps_for PassesOwn.never rfl (pi_range2 rfl T.range (pa_cons (pv 4) (pa_cons (pe_op op_add (pv 5) pe_int) pa_nil))) (pg_name (i := 9) nd rfl (Or.inl rfl))
        (pss_cons (ps_set (i := 10) nd rfl (Or.inl rfl) (pe_op op_sub (pe_callB call_len_seq (by rfl) T.len PySem.boot_len (pa_cons (pe_ix ix_list (pv 0) (pv 9) (fun _ _ => rfl)) pa_nil)) (pe_callB call_len_seq (by rfl) T.len PySem.boot_len (pa_cons (pv 8) pa_nil))))
        (pss_one (ps_if (PW.pt (pw_or (pt_cmpR op_lt (pv 10) pe_int (nomark _)) (pw_or (pt_cmpR (op_neD hr.units) (pe_slice (r := rSlW K) sl_tupK (pe_ix ix_list (pv 0) (pv 9) (fun _ _ => rfl)) (po_some (pv 10)) po_none) (pv 8) (nomark _))
          (pw_or1 (PW.pt (pw_and (pt_cmpR op_lt (pv 9) (pv 5) (nomark _)) (pw_and1 (pt_cmpR (op_inNK (P := P) (w := w) (K := K) hu16) (pe_slice (r := rSlW K) sl_tupK (pe_ix ix_list (pv 0) (pv 9) (fun _ _ => rfl)) po_none (po_some (pv 10))) (pv 3) (by rfl))))))))) (pss_one (ps_ret pe_bl)) pss_nil))))
      (pss_one (ps_ret (pe_cmpR (op_eqD hr.units) (pe_slice (r := rSlW K) sl_tupK (pe_slice (r := rSlW K) sl_tupK (pv 7) po_none (po_some (pe_op op_sub (pe_callB call_len_seq (by rfl) T.len PySem.boot_len (pa_cons (pv 7) pa_nil)) (pe_callB call_len_seq (by rfl) T.len PySem.boot_len (pa_cons (pv 8) pa_nil))))) po_none (po_some (pv 2)))
        (pe_slice (r := rSlW K) sl_tupK (pv 6) po_none (po_some (pv 2))) (by rfl))))))))), ?_⟩
    case cS =>
      rintro σ H Q ⟨p, r, us, vs, n, e6, e7, e2, hp, hr2, lu, lv, q⟩
      refine ⟨_, e6, _, e7, _, _, dp_wt hp, dp_wt hr2, shaped_wt lu, shaped_wt lv, _, rfl, ?_⟩
      rw [eqv_wt]
      by_cases h1 : us = vs
      · rw [decide_eq_true h1]
        refine iteT ⟨_, e2, _, e6, p, _, rfl, .inr hp, rfl, _, rfl, ?_⟩
        rw [List.length_map]
        by_cases h2 : n = us.length
        · rw [decide_eq_true (by rw [h2])]
          rw [decide_eq_true ⟨h1, h2⟩] at q
          exact q
        · rw [decide_eq_false (fun e => by injection e with e; exact h2 (by omega))]
          rw [decide_eq_false (fun h => h2 h.2)] at q
          exact q
      · rw [decide_eq_false h1]
        rw [decide_eq_false (fun h => h1 h.1)] at q
        exact iteF q
    have lx := pl.length
    obtain ⟨vi, evi⟩ : ∃ v, xs[i]? = some v := ⟨_, List.getElem?_eq_getElem (by omega)⟩
    obtain ⟨wi, ewi, pi, rfl, hpi⟩ := pair_get pl evi
    obtain ⟨vj, evj⟩ : ∃ v, xs[j]? = some v := ⟨_, List.getElem?_eq_getElem (by omega)⟩
    obtain ⟨wj, ewj, pj, rfl, hpj⟩ := pair_get pl evj
    have lp := part_len walk (i := i) hj
    have hd : (partOf walk i j).headD [] = wi := headD_of (by rw [part_at walk (by omega)]; exact ewi)
    have la : (partOf walk i j).getLastD [] = wj := lastD_of (by rw [lp, part_at walk (by omega), show i + (j + 1 - i - 1) = j by omega]; exact ewj)
    have pat : ∀ t, t < j + 1 - i → (partOf walk i j)[t]? = walk[i + t]? := fun t h => part_at walk h
    have li := low wi (List.mem_of_getElem? ewi)
    have lj := low wj (List.mem_of_getElem? ewj)
    have eB : lawB (partOf walk i j) n js = if wi = wj ∧ n = wi.length then true else if wi.length < n then false else lawR (wi.drop n) (partOf walk i j) n js := by
      unfold lawB restOf
      rw [hd, la]
    rw [eB] at q
    generalize partOf walk i j = part at lp hd la pat q
    refine ⟨_, rfl, pa, _, rfl, hpa, rfl, _, _, rfl, _, _, rfl, rfl, ?_⟩
    refine ⟨_, rfl, _, rfl, wa, xs, _, _, rfl, rfl, hw, at_of (j := i) rfl evi, _, rfl, _, rfl, wa, xs, _, _, rfl, rfl, hw, at_of (j := j) rfl evj, _, _, rfl, ?_⟩
    refine ⟨pi, pj, wi, wj, n, rfl, rfl, rfl, hpi, hpj, li, lj, ?_⟩
    by_cases h1 : wi = wj ∧ n = wi.length
    · rw [decide_eq_true h1]
      have := q H (Same.refl H)
      rw [if_pos h1] at this
      exact iteT this
    · rw [decide_eq_false h1]
      rw [if_neg h1] at q
      refine iteF ⟨_, rfl, _, rfl, pi, _, rfl, .inr hpi, _, _, rfl, rfl, _, rfl, ?_⟩
      rw [List.length_map]
      by_cases h2 : wi.length < n
      · rw [decide_eq_true (by omega)]
        have := q H (Same.refl H)
        rw [if_pos h2] at this
        exact iteT this
      · rw [decide_eq_false (by omega)]
        rw [if_neg h2] at q
        refine iteF ⟨_, rfl, _, rfl, _, rfl, pi, _, rfl, hpi, fun rp G1 s1 hrp => ?_⟩
        rw [cut_hi] at hrp
        have rlow : LowW (wi.drop n) := fun z hz => li z (List.mem_of_mem_drop hz)
        have lr : (wi.drop n).length ≤ wi.length := by
          rw [List.length_drop]
          omega
        have lr2 : n = wi.length - (wi.drop n).length := by
          rw [List.length_drop]
          omega
        generalize wi.drop n = rest at hrp rlow q lr lr2
        have full : ∀ t a, t < j + 1 - i → walk[i + t]? = some a → endsB rest a = false → lawR rest part n js = false := fun t a ht ea e => by
          unfold lawR
          rw [show part.all (endsB rest) = false from ?_]
          · rfl
          · rw [Bool.eq_false_iff]
            intro h
            have := List.all_eq_true.mp h a (List.mem_of_getElem? (by rw [pat t ht]; exact ea))
            rw [e] at this
            cases this
        have lfr : (part.map (frontOf rest)).dropLast.length = j - i := by
          rw [List.length_dropLast, List.length_map, lp]
          omega
        refine ⟨_, rfl, _, rfl, _, _, rfl, rfl, (i : Int), (j : Int) + 1, rfl, ⟨by omega, by omega, by omega, by omega⟩, for_range (lo := (i : Int)) (n := (((j : Int) + 1) - (i : Int)).toNat) (fun t σ G => Same H G ∧ SqT K G rp (rest.map V.str) ∧ (∃ u9 u10, σ = [some (.ref wa), some (.ref pa), some (.int (n : Int)), some (.ref D), some (.int (i : Int)), some (.int (j : Int)), some (.ref pi), some (.ref pj), some (.ref rp), u9, u10]) ∧ (part.take t).all (endsB rest) = true ∧ ((part.map (frontOf rest)).dropLast.take t).all (fun z => decide (z ∉ js)) = true)
          ⟨s1, hrp, ⟨_, _, rfl⟩, rfl, rfl⟩ ?_ ?_⟩
        · rintro t σ G ht ⟨sG, hrG, ⟨u9, u10, rfl⟩, al, an⟩
          have ht2 : t < j + 1 - i := by omega
          obtain ⟨va, eva⟩ : ∃ v, xs[i + t]? = some v := ⟨_, List.getElem?_eq_getElem (by omega)⟩
          obtain ⟨a, ea, ap, rfl, ha⟩ := pair_get pl eva
          have lA := low a (List.mem_of_getElem? ea)
          have haG := same_T sG ha
          have at_ : atI xs ((i : Int) + (t : Int)) = some (.ref ap) := at_of (j := i + t) (by omega) eva
          have tk : part.take (t + 1) = part.take t ++ [a] := by
            rw [List.take_add_one, pat t ht2, ea]
            rfl
          refine ⟨_, rfl, _, rfl, wa, xs, _, _, rfl, rfl, sG.seq hw, at_, ap, _, rfl, .inr haG, _, rfl, rp, _, rfl, .inr hrG, _, _, rfl, rfl, ?_⟩
          rw [List.length_map, List.length_map]
          refine ⟨_, rfl, _, _, rfl, rfl, _, rfl, ?_⟩
          by_cases neg : ((a.length : Int) - (rest.length : Int)) < 0
          · rw [decide_eq_true neg]
            refine iteT (iteT ?_)
            have := q _ sG
            rw [full t a ht2 ea (by unfold endsB; rw [decide_eq_false (by omega)]; rfl)] at this
            exact this
          · rw [decide_eq_false neg]
            obtain ⟨c, ec, cl⟩ : ∃ c : Nat, ((a.length : Int) - (rest.length : Int)) = (c : Int) ∧ c = a.length - rest.length := ⟨a.length - rest.length, by omega, rfl⟩
            refine iteF ?_
            rw [show (fun i j : Int => V.int (i - j)) (a.length : Int) (rest.length : Int) = V.int (c : Int) from congrArg V.int ec]
            refine ⟨_, rfl, _, rfl, wa, xs, _, _, rfl, rfl, sG.seq hw, at_, _, rfl, _, rfl, ap, _, rfl, haG, fun tp G3 s3 htp => ?_⟩
            rw [cut_hi] at htp
            have hr3 := same_T s3 hrG
            have sh1 : SeqAt.shaped (wt (a.drop c)) = true := shaped_wt fun z hz => lA z (List.mem_of_mem_drop hz)
            refine ⟨_, rfl, _, _, dp_wt htp, dp_wt hr3, sh1, shaped_wt rlow, _, rfl, ?_⟩
            rw [eqv_wt]
            have s03 := sG.trans s3
            have ha3 := same_T s3 haG
            by_cases e : a.drop c = rest
            · rw [decide_eq_true e]
              have eE : endsB rest a = true := by
                unfold endsB
                rw [decide_eq_true (by omega : rest.length ≤ a.length), ← cl, decide_eq_true e]
                rfl
              have al2 : (part.take (t + 1)).all (endsB rest) = true := by
                rw [tk, List.all_append, al]
                simp [eE]
              refine iteF ⟨_, rfl, _, rfl, _, _, rfl, rfl, _, rfl, ?_⟩
              by_cases lt : ((i : Int) + (t : Int)) < (j : Int)
              · rw [decide_eq_true lt]
                have ef : (part.map (frontOf rest)).dropLast[t]? = some (a.take c) := by
                  rw [List.getElem?_dropLast, if_pos (by rw [List.length_map, lp]; omega), List.getElem?_map, pat t ht2, ea]
                  unfold frontOf
                  rw [cl]
                  rfl
                refine iteT ⟨_, rfl, _, rfl, wa, xs, _, _, rfl, rfl, s03.seq hw, at_, _, rfl, _, rfl, ap, _, rfl, ha3, fun zp G4 s4 hz => ?_⟩
                rw [cut_lo] at hz
                have s04 := s03.trans s4
                refine ⟨_, rfl, zp, D, kA (a.take c), rows, rfl, rfl, nis_ws hz, kA_deep _, (jd.same s04).1, _, rfl, ?_⟩
                rw [keyJ_get _ jd.2]
                by_cases hm : a.take c ∈ js
                · rw [decide_eq_true hm]
                  refine iteT ?_
                  have := q _ s04
                  rw [show lawR rest part n js = false from ?_] at this
                  · exact this
                  · unfold lawR
                    rw [show ((part.map (frontOf rest)).dropLast.all fun z => decide (z ∉ js)) = false from ?_]
                    · simp
                    · rw [Bool.eq_false_iff]
                      intro h
                      have := List.all_eq_true.mp h _ (List.mem_of_getElem? ef)
                      simp [hm] at this
                · rw [decide_eq_false hm]
                  refine iteF ⟨s04, same_T s4 hr3, ⟨_, _, rfl⟩, al2, ?_⟩
                  rw [List.take_add_one, ef, List.all_append, an]
                  simp [hm]
              · rw [decide_eq_false lt]
                refine iteF (iteF ⟨s03, hr3, ⟨_, _, rfl⟩, al2, ?_⟩)
                rw [List.take_of_length_le (by omega)] at an ⊢
                exact an
            · rw [decide_eq_false e]
              refine iteT ?_
              have := q _ s03
              rw [full t a ht2 ea (by unfold endsB; rw [← cl, decide_eq_false e, Bool.and_false])] at this
              exact iteT this
        · rintro σ G ⟨sG, hrG, ⟨u9, u10, rfl⟩, al, an⟩
          rw [List.take_of_length_le (by omega)] at al an
          have hj2 := same_T sG hpj
          have hi2 := same_T sG hpi
          have ne : endsB rest wj = true := List.all_eq_true.mp al wj (List.mem_of_getElem? (by rw [pat (j - i) (by omega), show i + (j - i) = j by omega]; exact ewj))
          unfold endsB at ne
          have ne1 : rest.length ≤ wj.length := by
            rw [Bool.and_eq_true, decide_eq_true_eq] at ne
            exact ne.1
          refine ⟨_, rfl, _, rfl, pj, _, rfl, .inr hj2, _, rfl, rp, _, rfl, .inr hrG, _, _, rfl, rfl, _, rfl, pj, _, rfl, hj2, fun b1 G2 s2 hb1 => ?_⟩
          obtain ⟨c, ec, cl⟩ : ∃ c : Nat, (((wj.map V.str).length : Nat) : Int) - (((rest.map V.str).length : Nat) : Int) = (c : Int) ∧ c = wj.length - rest.length := ⟨wj.length - rest.length, by rw [List.length_map, List.length_map]; omega, rfl⟩
          rw [ec, cut_lo, cl] at hb1
          refine ⟨_, rfl, _, rfl, b1, _, rfl, hb1, fun b2 G3 s3 hb2 => ?_⟩
          rw [cut_lo] at hb2
          have s23 := s2.trans s3
          refine ⟨_, rfl, _, rfl, _, rfl, pi, _, rfl, same_T s23 hi2, fun b3 G4 s4 hb3 => ?_⟩
          rw [cut_lo] at hb3
          have sh2 : SeqAt.shaped (wt ((wj.take (wj.length - rest.length)).take n)) = true := shaped_wt fun z hz => lj z (List.mem_of_mem_take (List.mem_of_mem_take hz))
          have sh3 : SeqAt.shaped (wt (wi.take n)) = true := shaped_wt fun z hz => li z (List.mem_of_mem_take hz)
          refine ⟨_, _, dp_wt (same_T s4 hb2), dp_wt hb3, sh2, sh3, ?_⟩
          rw [eqv_wt]
          have := q _ (sG.trans (s23.trans s4))
          unfold lawR at this
          rw [al, an, la, hd] at this
          exact this
end
end K28
namespace K28
open PySem L2 Ld PyProof.Rows
abbrev sDW : Stmt := top 42
/-! ### what an answer looks like -/
theorem ans_form (rs : List Rl) (ws : List Str) : ∃ (s : Str) (ds : List PyData), answerOf rs ws = .tuple (.str s :: ds) ∧ (s = "to" → ∃ r ∈ rs, ∃ tg n, r.an = .to tg n ∧ ((ds = [wt tg, .int n]) ∨ ds = [wt (tg ++ ws.drop r.pl.length), .int n])) := by
  unfold answerOf
  cases h : ruleFor rs ws with
  | none => exact ⟨_, _, rfl, fun e => absurd e (by decide +kernel)⟩
  | some r =>
    have hm := for_mem h
    show ∃ (s : Str) (ds : List PyData), ansOf r ws = _ ∧ _
    unfold ansOf
    cases hex : r.ex with
    | true =>
      rw [if_pos rfl]
      cases ha : r.an with
      | gone => exact ⟨_, _, rfl, fun e => absurd e (by decide +kernel)⟩
      | own z => exact ⟨_, _, rfl, fun e => absurd e (by decide +kernel)⟩
      | to tg n => exact ⟨_, _, rfl, fun _ => ⟨r, hm, tg, n, ha, .inl rfl⟩⟩
    | false =>
      rw [if_neg (by decide)]
      cases ha : r.an with
      | gone => exact ⟨_, _, rfl, fun e => absurd e (by decide +kernel)⟩
      | own z => exact ⟨_, _, rfl, fun e => absurd e (by decide +kernel)⟩
      | to tg n => exact ⟨_, _, rfl, fun _ => ⟨r, hm, tg, n, ha, .inr rfl⟩⟩
theorem notSm_pl {K : PySem.W.Frag} {H : Hp} {xs : List V} {ss : List (List Str)} (z : Places K H xs ss) : NotSm (.lst xs) := notSm_refs fun x hx => by
  obtain ⟨i, h⟩ := List.mem_iff_getElem?.mp hx
  obtain ⟨_, _, p, e, _⟩ := pair_get z h
  exact ⟨p, e⟩
theorem notSm_rules {K : PySem.W.Frag} {H : Hp} {xs : List V} {rs : List Rl} (z : Rules K H xs rs) : NotSm (.lst xs) := notSm_refs fun x hx => by
  obtain ⟨i, h⟩ := List.mem_iff_getElem?.mp hx
  obtain ⟨_, _, p, _, _, e, _⟩ := z.get h
  exact ⟨p, e⟩
/-- words, and few of them -/
def Okw (n : Nat) (a : List Str) : Prop := (∀ z ∈ a, Wd z) ∧ a.length ≤ n
section
variable {P : Program} {w : World} {K : PySem.W.Frag} {mg : Str → Option Value} {base : Heap} {f : Addr} {fd : FuncData}
def tToI (K : PySem.W.Frag) : TT := fun σ H Q => ∃ (wa c : Addr) (s : Str) (ys : List V), σ[0]? = some (some (.ref wa)) ∧ σ[5]? = some (some (.ref c)) ∧ Sm H wa ∧ SqT K H c (.str s :: ys) ∧ ∀ b G, (b = true → s = "to") → Sm G wa → Sb wa H G → Q b G
def spDW (K : PySem.W.Frag) : Sp := fun vs H Q _ => ∃ (wa l pa : Addr) (xs : List V) (rs : List Rl) (zs : List Str), vs = [.ref wa, .ref l, .ref pa] ∧ Sm H wa ∧ H l = some (.lst xs) ∧ Rules K H xs rs ∧ Good rs ∧ H pa = some (.lst (zs.map V.str)) ∧ zs ≠ [] ∧ zs.length ≤ 50 ∧ (∀ z ∈ zs, Wd z) ∧
  ∀ (wl : Addr) (ys : List V) (walk : List (List Str)) (H' : Hp), H' wl = some (.lst ys) → Places K H' ys walk → (∀ a ∈ walk, Okw 30 a) → 2 ≤ walk.length → walk.length ≤ 7 → Sm H' wa → Sb wa H H' → H wl = none → Q (.ref wl) H'
def dwN : List Str := ["_law_stream_here", "_law_rules_here", "_law_words_here", "_law_walk", "_law_turn", "_law_answer_here", "_law_rest"]
theorem scDW : FnScope dwN ["_law_stream_here", "_law_rules_here", "_law_words_here"] (defScope sDW) := ⟨rfl, rfl, rfl, by decide +kernel, rfl, by decide +kernel, by decide +kernel⟩
theorem ok_dw (Fd : Fun K "_law_drawn_walk" "_law_drawn_walk" sDW f fd) (T : Tx mg) (D : Df P w K mg base 1 "_law_draw" ["_law_stream_here", "_law_size"] spDraw) (C : Df P w K mg base 2 "_law_choose" ["_law_stream_here", "_law_items"] (spChoose K))
    (L : Df P w K mg base 3 "_law_place" ["_law_stream_here", "_law_words_here"] (spPlaceOf K)) (An : Df P w K mg base 1 "_law_answer" ["_law_rules_here", "_law_address"] (spLA K)) : FnOk P w K mg base CX0 4 f fd ["_law_stream_here", "_law_rules_here", "_law_words_here"] (spDW K) := by
  refine Fd.ok scDW (fun vs H Q E h => ?_) (fun cdv A outer s H vs Q E hr h => ?_)
  · obtain ⟨wa, l, pa, xs, rs, zs, rfl, _⟩ := h
    rfl
  · obtain ⟨wa, l, pa, xs, rs, zs, rfl, W, hl, hR, g, hp, hne, hlen, hw, q⟩ := h
    have nd := scDW.nd
    refine ⟨_, pss_cons (ps_set (i := 3) nd rfl (Or.inl rfl) (pe_lstN (pa_cons (pe_op op_catW (pe_df L hr (pa_cons (pv 0) (pa_cons (pv 2) pa_nil))) (pe_df L hr (pa_cons (pv 0) (pa_cons (pv 2) pa_nil)))) pa_nil)))
      (pss_cons (ps_for PassesOwn.never rfl (pi_range1 rfl T.range (pa_cons (pe_op op_add pe_int (pe_df D hr (pa_cons (pv 0) (pa_cons pe_int pa_nil)))) pa_nil)) (pg_name (i := 4) nd rfl (Or.inl rfl))
        (pss_cons (ps_set (i := 5) nd rfl (Or.inl rfl) (pe_df An hr (pa_cons (pv 1) (pa_cons (pe_ix ix_list (pv 3) (pe_un un_neg pe_int) (fun _ _ => rfl)) pa_nil))))
        (pss_one (ps_if (PT.conv (t := tToI K) (PW.pt (pw_and (pt_cmpR op_eq (pe_ix ix_tup (pv 5) pe_int (fun _ _ => rfl)) pe_str (nomark _)) (pw_and1 (pt_cmpR op_gt (pe_df D hr (pa_cons (pv 0) (pa_cons pe_int pa_nil))) pe_int (nomark _))))) ?cT)
          (pss_one (ps_expr (pe_bm PySem.F.plainAttrs_list PySem.F.slot_list_append PySem.F.type_list_append mt_append (pv 3) (pa_cons (pe_ix ix_tup (pv 5) pe_int (fun _ _ => rfl)) pa_nil))))
          (pss_cons (ps_set (i := 6) nd rfl (Or.inl rfl) (pe_slice (r := rSlW K) sl_tupK (pe_ix ix_list (pv 3) (pe_un un_neg pe_int) (fun _ _ => rfl)) (po_some (pe_df D hr (pa_cons (pv 0) (pa_cons pe_int pa_nil)))) po_none))
          (pss_one (ps_expr (pe_bm PySem.F.plainAttrs_list PySem.F.slot_list_append PySem.F.type_list_append mt_append (pv 3) (pa_cons (pe_df C hr (pa_cons (pv 0) (pa_cons (pe_lst (pa_cons (pe_op op_catW (pe_df L hr (pa_cons (pv 0) (pa_cons (pv 2) pa_nil))) (pv 6)) (pa_cons (pe_ix ix_list (pv 3) pe_int (fun _ _ => rfl)) pa_nil))) pa_nil))) pa_nil)))))))))
      (pss_one (ps_ret (pv 3)))), ?_⟩
    case cT =>
      rintro σ H Q ⟨wa, c, s, ys, e0, e5, W, hc, q⟩
      refine ⟨_, e5, c, _, _, _, rfl, rfl, hc, at0, rfl, _, rfl, ?_⟩
      by_cases h : s = "to"
      · rw [decide_eq_true (by rw [h])]
        exact iteT ⟨_, e0, wa, 6, rfl, W, by decide, by decide, fun k G1 k0 k1 W1 s1 => ⟨_, _, rfl, rfl, _, rfl, q _ _ (fun _ => h) W1 s1⟩⟩
      · rw [decide_eq_false (fun e => h (by injection e))]
        exact iteF (q _ _ (fun e => nomatch e) W (Sb.refl _ _))
    refine ⟨_, rfl, _, rfl, wa, pa, zs, rfl, W, hp, hne, hlen, fun r1 ws1 G1 h1 hz1 hl1 W1 s1 => ?_⟩
    have hp1 := s1 _ _ (W.ne hp (notSm_strs _)) hp
    refine ⟨_, rfl, _, rfl, wa, pa, zs, rfl, W1, hp1, hne, hlen, fun r2 ws2 G2 h2 hz2 hl2 W2 s2 => ?_⟩
    refine ⟨r1, r2, _, _, rfl, rfl, smT W1 s2 h1, h2, by rw [List.length_map, List.length_map]; exact Nat.le_trans (show ws1.length + ws2.length ≤ 6 by omega) (by decide), fun ap G3 s3 hap => ⟨(show 1 ≤ sizeLine by decide), fun wl hwl nwl => ?_⟩⟩
    rw [← List.map_append] at hap
    have s4 := Same.new (o := .lst [V.ref ap]) hwl
    have s03 : Sb wa H G3 := s1.trans (s2.trans (.of s3))
    have W3 := W2.same s3
    have nwH : H wl = none := by
      cases e : H wl with
      | none => rfl
      | some o =>
        by_cases nl2 : wl = wa
        · obtain ⟨d, mm, h1, _⟩ := W3
          rw [nl2, h1] at hwl
          cases hwl
        · rw [s03 wl o nl2 e] at hwl
          cases hwl
    have new : wl ≠ wa := fun e => by
      obtain ⟨d, mm, h1, _⟩ := W3
      rw [e, h1] at hwl
      cases hwl
    have gW4 := upd_same (H := G3) (a := wl) (o := .lst [V.ref ap])
    have W4 := W3.same s4
    have s04 := s03.trans (.of s4)
    have pl4 : Places K (upd G3 wl (.lst [V.ref ap])) [V.ref ap] [ws1 ++ ws2] := .cons ⟨ap, rfl, same_T s4 hap⟩ .nil
    have ok4 : ∀ a ∈ [ws1 ++ ws2], Okw 6 a := fun a ha => by
      rw [List.mem_singleton.mp ha]
      refine ⟨fun z hz => ?_, by rw [List.length_append]; omega⟩
      rcases List.mem_append.mp hz with h | h
      · exact hw z (hz1 z h)
      · exact hw z (hz2 z h)
    generalize upd G3 wl (.lst [V.ref ap]) = G4 at gW4 W4 s04 pl4 ⊢
    have stay : ∀ {G : Hp} {o : HO}, Sb wa H G → Sb wa H (upd G wl o) := fun {G o} z c u n e => (upd_ne (ne_of_none e nwH)).trans (z c u n e)
    have stayW : ∀ {G : Hp} {o : HO}, Sm G wa → Sm (upd G wl o) wa := fun {G o} z => by
      obtain ⟨d, m, h1, h2⟩ := z
      exact ⟨d, m, (upd_ne new.symm).trans h1, h2⟩
    have hl0 : l ≠ wa := W.ne hl (notSm_rules hR)
    have hp0 : pa ≠ wa := W.ne hp (notSm_strs _)
    refine ⟨_, rfl, wa, 5, rfl, W4, by decide, by decide, fun k G5 k0 k1 W5 s5 => ⟨_, _, rfl, rfl, 2 + k, rfl, by omega, by omega, ?_⟩⟩
    refine for_range (lo := 0) (n := (2 + k).toNat) (fun t σ G => Sb wa H G ∧ Sm G wa ∧ ∃ u4 u5 u6 ys walk, σ = [some (.ref wa), some (.ref l), some (.ref pa), some (.ref wl), u4, u5, u6] ∧ G wl = some (.lst ys) ∧ Places K G ys walk ∧ (∀ a ∈ walk, Okw (6 + 4 * t) a) ∧ walk.length = t + 1)
      ⟨s04.trans s5, W5, _, _, _, _, [ws1 ++ ws2], rfl, s5 _ _ new gW4, Paired.mono (fun _ _ ⟨p, e, z⟩ => ⟨p, e, smT W4 s5 z⟩) pl4, ok4, rfl⟩ ?_ ?_
    · rintro t σ G ht ⟨sG, WG, u4, u5, u6, ys, walk, rfl, gW, pl, ok, lw⟩
      have ly := pl.length
      obtain ⟨vl, el⟩ : ∃ v, ys[ys.length - 1]? = some v := ⟨_, List.getElem?_eq_getElem (by omega)⟩
      obtain ⟨aw, eaw, pw, rfl, hpw⟩ := pair_get pl el
      obtain ⟨v0, e0⟩ : ∃ v, ys[0]? = some v := ⟨_, List.getElem?_eq_getElem (by omega)⟩
      obtain ⟨a0, ea0, p0, rfl, hp00⟩ := pair_get pl e0
      have oka := ok aw (List.mem_of_getElem? eaw)
      have ok0 := ok a0 (List.mem_of_getElem? ea0)
      have hlG := sG _ _ hl0 hl
      have hRG : Rules K G xs rs := hR.mono fun _ _ q => smT W sG q
      have t6 : t ≤ 5 := by omega
      refine ⟨_, rfl, _, rfl, _, rfl, wl, ys, _, _, rfl, rfl, .of gW, at_last (by omega) el, l, pw, xs, rs, aw, rfl, .of hlG, hRG, g, hpw, Nat.le_trans oka.2 (by omega), (fun z hz => (oka.1 z hz).low), fun v G6 s6 dv => ?_⟩
      obtain ⟨s, ds, e, hto⟩ := ans_form rs aw
      rw [e] at dv
      cases dv with
      | tup hc hds =>
        rename_i c vs
        cases hds with
        | cons hs hrest =>
          rename_i v1 vs1
          cases hs
          have W6 := WG.same s6
          refine ⟨wa, c, s, vs1, rfl, rfl, W6, hc, fun b G7 hb W7 s7 => ?_⟩
          have gW7 := s7 _ _ new (s6 _ _ gW)
          have s67 : Sb wa G G7 := (Sb.of s6).trans s7
          have sG7 := sG.trans s67
          have pl7 : Places K G7 ys walk := Paired.mono (fun _ _ ⟨p, e, z⟩ => ⟨p, e, smT WG s67 z⟩) pl
          have step : ∀ {G8 : Hp} {p : Addr} {a : List Str} {u4 u5 u6 : Option V}, Sb wa H G8 → Sm G8 wa → G8 wl = some (.lst ys) → Places K G8 ys walk → SqT K G8 p (a.map V.str) → Okw (6 + 4 * (t + 1)) a →
              Sb wa H (upd G8 wl (.lst (ys ++ [.ref p]))) ∧ Sm (upd G8 wl (.lst (ys ++ [.ref p]))) wa ∧ ∃ u4' u5' u6' ys' walk', [some (V.ref wa), some (.ref l), some (.ref pa), some (.ref wl), u4, u5, u6] = [some (.ref wa), some (.ref l), some (.ref pa), some (.ref wl), u4', u5', u6'] ∧ (upd G8 wl (.lst (ys ++ [.ref p]))) wl = some (.lst ys') ∧ Places K (upd G8 wl (.lst (ys ++ [.ref p]))) ys' walk' ∧ (∀ a ∈ walk', Okw (6 + 4 * (t + 1)) a) ∧ walk'.length = t + 1 + 1 := by
            intro G8 p a u4 u5 u6 z1 z2 z3 z4 z5 z6
            refine ⟨stay z1, stayW z2, _, _, _, ys ++ [.ref p], walk ++ [a], rfl, upd_same, (Paired.mono (fun _ _ ⟨b, e, t⟩ => ⟨b, e, sqT_list z3 t⟩) z4).snoc ⟨p, rfl, sqT_list z3 z5⟩, fun b hb => ?_, by rw [List.length_append, lw]; rfl⟩
            rcases List.mem_append.mp hb with h | h
            · exact ⟨(ok b h).1, Nat.le_trans (ok b h).2 (by omega)⟩
            · rw [List.mem_singleton.mp h]
              exact z6
          have few : ys.length < sizeLine := Nat.lt_of_le_of_lt (show ys.length ≤ 7 by omega) (by decide)
          cases b with
          | true =>
            obtain ⟨r, hr1, tg, n, ea, hd⟩ := hto (hb rfl)
            have okr := (g.ok r hr1).an
            rw [ea] at okr
            obtain ⟨X, eX, okX⟩ : ∃ X, ds = [wt X, .int n] ∧ Okw (6 + 4 * (t + 1)) X := by
              rcases hd with h | h
              · exact ⟨tg, h, okr.2.1, Nat.le_trans okr.1 (by omega)⟩
              · refine ⟨_, h, fun z hz => ?_, ?_⟩
                · rcases List.mem_append.mp hz with h | h
                  · exact okr.2.1 z h
                  · exact oka.1 z (List.mem_of_mem_drop h)
                · rw [List.length_append, List.length_drop]
                  have := oka.2
                  have := okr.1
                  omega
            subst eX
            cases hrest with
            | cons hx _ =>
              obtain ⟨xb, rfl, hxb⟩ := wt_inv hx
              refine iteT ⟨_, rfl, Or.inl ⟨rfl, _, Or.inl (Or.inl gW7)⟩, _, rfl, c, _, _, _, rfl, rfl, smT W6 s7 hc, at1, wl, ys, .ref xb, rfl, rfl, gW7, few, ?_⟩
              exact step sG7 W7 gW7 pl7 (smT W6 s7 hxb) okX
          | false =>
            refine iteF ⟨_, rfl, _, rfl, wl, ys, _, _, rfl, rfl, .of gW7, at_last (by omega) el, _, rfl, wa, 3, rfl, W7, by decide, by decide, fun k G8 k0 k1 W8 s8 => ⟨_, rfl, pw, _, rfl, smT W7 s8 (smT WG s67 hpw), fun rp G9 s9 hrp => ?_⟩⟩
            obtain ⟨m, em⟩ : ∃ m : Nat, k = (m : Int) := ⟨k.toNat, by omega⟩
            rw [em, cut_hi] at hrp
            have s79 : Sb wa G7 G9 := s8.trans (.of s9)
            have W9 := W8.same s9
            have gW9 := s79 _ _ new gW7
            have sG9 := sG7.trans s79
            have hp9 := sG9 _ _ hp0 hp
            refine ⟨_, rfl, Or.inl ⟨rfl, _, Or.inl (Or.inl gW9)⟩, _, rfl, _, rfl, _, rfl, wa, pa, zs, rfl, W9, hp9, hne, hlen, fun r3 ws3 Ga h3 hz3 hl3 Wa sa => ?_⟩
            have gWa := sa _ _ new gW9
            refine ⟨_, rfl, r3, rp, _, _, rfl, rfl, h3, smT W9 sa hrp, by rw [List.length_map, List.length_map]; exact Nat.le_trans (show ws3.length + (aw.drop m).length ≤ 50 by rw [List.length_drop]; have := oka.2; omega) (by decide), fun np Gb sb hnp => ?_⟩
            rw [← List.map_append] at hnp
            have gWb := sb _ _ gWa
            refine ⟨_, rfl, wl, ys, _, _, rfl, rfl, .of gWb, at_of (j := 0) rfl e0, (show 2 ≤ sizeLine by decide), fun il hil => ?_⟩
            have sc := Same.new (o := .lst [V.ref np, .ref p0]) hil
            refine ⟨wa, il, [.ref np, .ref p0], rfl, (Wa.same sb).same sc, .of upd_same, trivial, by simp, (show 2 ≤ 1000 by decide), fun v Gd hv Wd sd => ?_⟩
            have W10 := (Wa.same sb).same sc
            have s9d : Sb wa G9 Gd := sa.trans ((Sb.of (sb.trans sc)).trans sd)
            have sHd := sG9.trans s9d
            have gWd := s9d _ _ new gW9
            have pld : Places K Gd ys walk := Paired.mono (fun _ _ ⟨p, e, z⟩ => ⟨p, e, smT W7 (s79.trans s9d) z⟩) pl7
            have hnd : SqT K Gd np ((ws3 ++ aw.drop m).map V.str) := smT W10 sd (same_T sc hnp)
            have h0d : SqT K Gd p0 (a0.map V.str) := smT W7 (s79.trans s9d) (smT WG s67 hp00)
            have pick : ∃ (p : Addr) (a : List Str), v = .ref p ∧ SqT K Gd p (a.map V.str) ∧ Okw (6 + 4 * (t + 1)) a := by
              simp only [List.mem_cons, List.not_mem_nil, or_false] at hv
              rcases hv with rfl | rfl
              · refine ⟨np, _, rfl, hnd, fun z hz => ?_, ?_⟩
                · rcases List.mem_append.mp hz with h | h
                  · exact hw z (hz3 z h)
                  · exact oka.1 z (List.mem_of_mem_drop h)
                · rw [List.length_append, List.length_drop]
                  have := oka.2
                  omega
              · exact ⟨p0, a0, rfl, h0d, ok0.1, Nat.le_trans ok0.2 (by omega)⟩
            obtain ⟨p, a, rfl, h1p, h2p⟩ := pick
            exact ⟨wl, ys, .ref p, rfl, rfl, gWd, few, step sHd Wd gWd pld h1p h2p⟩
    · rintro σ G ⟨sG, WG, u4, u5, u6, ys, walk, rfl, gW, pl, ok, lw⟩
      exact ⟨_, rfl, q wl ys walk G gW pl (fun a ha => ⟨(ok a ha).1, Nat.le_trans (ok a ha).2 (by omega)⟩) (by omega) (by omega) WG sG nwH⟩
end
end K28
namespace K28
open PySem L2 Ld PyProof.Rows
abbrev sBR : Stmt := top 44
theorem cut_fromV (xs : List V) (k : Nat) : cutV xs (some (k : Int)) none = xs.drop k := by
  unfold cutV
  rw [HT.sIx_none, HT.sIx_nat]
  by_cases h : k ≤ xs.length
  · rw [Nat.min_eq_left h, List.take_of_length_le (by simp)]
  · rw [Nat.min_eq_right (by omega), List.drop_of_length_le (Nat.le_refl _), List.drop_of_length_le (by omega)]
    simp
section
variable {P : Program} {w : World} {K : PySem.W.Frag} {mg : Str → Option Value} {base : Heap} {f : Addr} {fd : FuncData} {CT : Addr}
def spRoundB (P : Program) (w : World) (K : PySem.W.Frag) (CT : Addr) : Sp := fun vs H Q E => spRound P w K CT vs H Q E ∨ spRoundT P w K CT vs H Q E
def spBR (P : Program) (w : World) (K : PySem.W.Frag) (CT : Addr) : Sp := fun vs H Q _ => ∃ (pa wa ta : Addr) (xs ts : List V) (walk : List (List Str)) (rss : List (List Rl)) (i j n : Int), vs = [.ref pa, .ref wa, .ref ta] ∧ SqT K H pa [.int i, .int j, .int n] ∧ SqL K H wa xs ∧ Places K H xs walk ∧ walk.length ≤ 100 ∧ (∀ a ∈ walk, LowW a) ∧
  (SqL K H ta ts ∨ SqT K H ta ts) ∧ Tabs P w K CT H ts rss ∧ rss.flatten.length ≤ 150 ∧ ∀ H', Same H H' → Q (.bl true) H'
def brN : List Str := ["_law_turn", "_law_walk", "_law_tables", "_law_at", "_law_bent"]
theorem scBR : FnScope brN ["_law_turn", "_law_walk", "_law_tables"] (defScope sBR) := ⟨rfl, rfl, rfl, by decide +kernel, rfl, by decide +kernel, by decide +kernel⟩
theorem ok_br (Fd : Fun K "_law_bools_right" "_law_bools_right" sBR f fd) (T : Tx mg) (R : Df P w K mg base 4 "is_round" ["value", "walk", "tables"] (spRoundB P w K CT)) : FnOk P w K mg base CX0 5 f fd ["_law_turn", "_law_walk", "_law_tables"] (spBR P w K CT) := by
  refine Fd.ok scBR (fun vs H Q E h => ?_) (fun cdv A outer s H vs Q E hr h => ?_)
  · obtain ⟨pa, wa, ta, xs, ts, walk, rss, i, j, n, rfl, _⟩ := h
    rfl
  · obtain ⟨pa, wa, ta, xs, ts, walk, rss, i, j, n, rfl, hpa, hw, pl, hlen, low, ht, hT, hn, q⟩ := h
    have nd := scBR.nd
    refine ⟨_, pss_cons (ps_for PassesOwn.never rfl (pi_range1 rfl T.range (pa_cons pe_int pa_nil)) (pg_name (i := 3) nd rfl (Or.inl rfl))
        (pss_cons (ps_set (i := 4) nd rfl (Or.inl rfl) (pe_op op_catW (pe_op op_catW (pe_slice (r := rSlW K) sl_tupK (pv 0) po_none (po_some (pv 3))) (pe_tup (pa_cons (pe_cmpR op_eq (pe_ix ix_tup (pv 0) (pv 3) (fun _ _ => rfl)) pe_int (nomark _)) pa_nil))) (pe_slice (r := rSlW K) sl_tupK (pv 0) (po_some (pe_op op_add (pv 3) pe_int)) po_none)))
        (pss_one (ps_if (PW.pt (pw_and (pt_cmpR op_lt (pe_ix ix_tup (pv 0) (pv 3) (fun _ _ => rfl)) pe_int (nomark _)) (pw_and1 (pt_cmpR op_notBl (pe_df R hr (pa_cons (pv 4) (pa_cons (pv 1) (pa_cons (pv 2) pa_nil)))) pe_bl (by rfl))))) (pss_one (ps_ret pe_bl)) pss_nil))))
      (pss_one (ps_ret pe_bl)), ?_⟩
    refine ⟨3, rfl, by decide, by decide, for_range (lo := 0) (n := 3) (fun t σ G => Same H G ∧ ∃ u3 u4, σ = [some (.ref pa), some (.ref wa), some (.ref ta), u3, u4]) ⟨Same.refl H, _, _, rfl⟩ ?_ ?_⟩
    · rintro t σ G htt ⟨sG, u3, u4, rfl⟩
      obtain ⟨z, ez⟩ : ∃ z, ([V.int i, V.int j, V.int n])[t]? = some (V.int z) := by
        have : t = 0 ∨ t = 1 ∨ t = 2 := by omega
        rcases this with rfl | rfl | rfl <;> exact ⟨_, rfl⟩
      have at_ : atI [V.int i, V.int j, V.int n] (0 + (t : Int)) = some (V.int z) := at_of (j := t) (by omega) ez
      refine ⟨_, rfl, _, rfl, _, rfl, pa, _, rfl, same_T sG hpa, fun p1 G1 s1 h1 => ?_⟩
      rw [show (0 + (t : Int)) = ((t : Nat) : Int) by omega, cut_upto] at h1
      have s01 := sG.trans s1
      refine ⟨_, rfl, _, rfl, pa, _, _, _, rfl, rfl, same_T s01 hpa, at_, rfl, (show 1 ≤ sizeLine by decide), fun b1 hb1 => ?_⟩
      generalize decide (V.int z = V.int 1) = bz at hb1 ⊢
      have s2 := Same.new (o := .tup [V.bl bz]) hb1
      have s02 := s01.trans s2
      refine ⟨p1, b1, _, _, rfl, rfl, same_T s2 h1, .of upd_same, by rw [List.length_take]; exact Nat.le_trans (show min t ([V.int i, V.int j, V.int n]).length + 1 ≤ 4 by simp only [List.length_cons, List.length_nil]; omega) (by decide), fun p2 G3 s3 h3 => ?_⟩
      have s03 := s02.trans s3
      refine ⟨_, rfl, _, rfl, _, _, rfl, rfl, _, rfl, pa, _, rfl, same_T s03 hpa, fun p3 G4 s4 h4 => ?_⟩
      rw [show (0 + (t : Int) + 1) = ((t + 1 : Nat) : Int) by omega, cut_fromV] at h4
      refine ⟨p2, p3, _, _, rfl, rfl, same_T s4 h3, h4, by simp only [List.length_append, List.length_take, List.length_drop, List.length_cons, List.length_nil]; exact Nat.le_trans (show _ ≤ 7 by omega) (by decide), fun p5 G5 s5 h5 => ?_⟩
      have s05 := s03.trans (s4.trans s5)
      have key : ∃ d, Dd K G5 (.ref p5) d ∧ roundD walk (jointsOf rss) d = false := by
        have : t = 0 ∨ t = 1 ∨ t = 2 := by omega
        rcases this with rfl | rfl | rfl
        · exact ⟨.tuple [.bool bz, .int j, .int n], .tup h5 (.cons (.bl _) (.cons (.int _) (.cons (.int _) .nil))), by simp [roundD, numD]⟩
        · exact ⟨.tuple [.int i, .bool bz, .int n], .tup h5 (.cons (.int _) (.cons (.bl _) (.cons (.int _) .nil))), by simp [roundD, numD]⟩
        · exact ⟨.tuple [.int i, .int j, .bool bz], .tup h5 (.cons (.int _) (.cons (.int _) (.cons (.bl _) .nil))), by simp [roundD, numD]⟩
      obtain ⟨d, hd, hf⟩ := key
      refine ⟨_, rfl, _, rfl, pa, _, _, _, rfl, rfl, same_T s05 hpa, at_, _, _, rfl, rfl, _, rfl, ?_⟩
      generalize decide (z < 2) = c2
      cases c2 with
      | false => exact iteF (iteF ⟨s05, _, _, rfl⟩)
      | true =>
        refine iteT ⟨_, rfl, _, rfl, _, rfl, .inl ⟨_, d, wa, ta, xs, ts, walk, rss, rfl, hd, s05.seq hw, Paired.mono (fun _ _ ⟨b, e, t⟩ => ⟨b, e, same_T s05 t⟩) pl, hlen, low, ht.imp (fun z => s05.seq z) (fun z => same_T s05 z), hT.same s05, hn, fun H' s' => ⟨_, _, rfl, rfl, _, rfl, ?_⟩⟩⟩
        rw [hf, show (!decide (false = false)) = false by decide]
        exact iteF ⟨s05.trans s', _, _, rfl⟩
    · rintro σ G ⟨sG, u3, u4, rfl⟩
      exact q _ sG
end
end K28
namespace K28
open PySem L2 Ld PyProof.Rows
abbrev sOD : Stmt := top 43
section
variable {P : Program} {w : World} {K : PySem.W.Frag} {mg : Str → Option Value} {base : Heap} {f : Addr} {fd : FuncData} {CT : Addr}
def spOD (K : PySem.W.Frag) : Sp := fun vs H Q _ => ∃ (wa : Addr) (xs : List V) (walk : List (List Str)), vs = [.ref wa] ∧ SqL K H wa xs ∧ Places K H xs walk ∧ 1 ≤ walk.length ∧ walk.length ≤ 100 ∧
  ∀ (p : Addr) (ys : List V) (ds : List PyData) (H' : Hp), Same H H' → H' p = some (.lst ys) → DdAll K H' ys ds → (∀ d ∈ ds, ∀ js, roundD walk js d = false) → Q (.ref p) H'
def odN : List Str := ["_law_walk", "_law_last", "_law_size", "_law_some"]
theorem scOD : FnScope odN ["_law_walk"] (defScope sOD) := ⟨rfl, rfl, rfl, by decide +kernel, rfl, by decide +kernel, by decide +kernel⟩
theorem ok_od (Fd : Fun K "_law_odd" "_law_odd" sOD f fd) (T : Tx mg) : FnOk P w K mg base CX0 1 f fd ["_law_walk"] (spOD K) := by
  refine Fd.ok scOD (fun vs H Q E h => ?_) (fun cdv A outer s H vs Q E hr h => ?_)
  · obtain ⟨wa, xs, walk, rfl, _⟩ := h
    rfl
  · obtain ⟨wa, xs, walk, rfl, hw, pl, h1, hlen, q⟩ := h
    have nd := scOD.nd
    refine ⟨_, pss_cons (ps_par (i := 1) (j := 2) (by rfl) nd rfl rfl (by decide) rfl rfl (pa_cons (pe_op op_sub (pe_callB call_len_seq (by rfl) T.len PySem.boot_len (pa_cons (pv 0) pa_nil)) pe_int) (pa_cons (pe_callB call_len_seq (by rfl) T.len PySem.boot_len (pa_cons (pe_ix ix_list (pv 0) pe_int (fun _ _ => rfl)) pa_nil)) pa_nil)) (by rfl))
      (pss_cons (ps_set (i := 3) nd rfl (Or.inl rfl) (pe_lstN (pa_cons pe_non (pa_cons pe_int (pa_cons (pe_tup pa_nil) (pa_cons (pe_tup (pa_cons pe_int (pa_cons (pv 1) pa_nil))) (pa_cons (pe_lstN (pa_cons pe_int (pa_cons (pv 1) (pa_cons (pv 2) pa_nil)))) (pa_cons (pe_tup (pa_cons pe_int (pa_cons (pv 1) (pa_cons (pv 2) (pa_cons pe_int pa_nil))))) (pa_cons (pe_tup (pa_cons pe_int (pa_cons (pe_callB call_len_seq (by rfl) T.len PySem.boot_len (pa_cons (pv 0) pa_nil)) (pa_cons (pv 2) pa_nil)))) (pa_cons (pe_tup (pa_cons (pv 1) (pa_cons (pv 1) (pa_cons (pv 2) pa_nil)))) pa_nil))))))))))
      (pss_cons (ps_set (i := 3) nd rfl (Or.inl rfl) (pe_op op_catN (pv 3) (pe_lstN (pa_cons (pe_tup (pa_cons (pv 1) (pa_cons pe_int (pa_cons (pv 2) pa_nil)))) (pa_cons (pe_tup (pa_cons pe_int (pa_cons (pv 1) (pa_cons (pe_op op_sub pe_int pe_int) pa_nil)))) (pa_cons (pe_tup (pa_cons (pe_op op_sub pe_int pe_int) (pa_cons (pv 1) (pa_cons (pv 2) pa_nil)))) (pa_cons (pe_tup (pa_cons pe_int (pa_cons (pv 1) (pa_cons (pe_op op_add (pv 2) pe_int) pa_nil)))) (pa_cons (pe_tup (pa_cons pe_int (pa_cons (pe_op op_pow pe_int pe_int) (pa_cons (pv 2) pa_nil)))) pa_nil))))))))
      (pss_one (ps_ret (pe_op op_catN (pv 3) (pe_lstN (pa_cons (pe_tup (pa_cons pe_bl (pa_cons (pv 1) (pa_cons (pv 2) pa_nil)))) (pa_cons (pe_tup (pa_cons pe_int (pa_cons (pv 1) (pa_cons pe_non pa_nil)))) (pa_cons (pe_tup (pa_cons pe_str (pa_cons (pv 1) (pa_cons (pv 2) pa_nil)))) (pa_cons (pe_tup (pa_cons pe_int (pa_cons (pe_tup (pa_cons (pv 1) pa_nil)) (pa_cons (pv 2) pa_nil)))) (pa_cons pe_dnewK (pa_cons pe_str pa_nil)))))))))))), ?_⟩
    have lx := pl.length
    obtain ⟨v0, e0⟩ : ∃ v, xs[0]? = some v := ⟨_, List.getElem?_eq_getElem (by omega)⟩
    obtain ⟨a0, ea0, p0, rfl, hp0⟩ := pair_get pl e0
    obtain ⟨la, ela⟩ : ∃ z : Int, z = (walk.length : Int) - 1 := ⟨_, rfl⟩
    obtain ⟨L, eL⟩ : ∃ z : Int, z = (walk.length : Int) := ⟨_, rfl⟩
    obtain ⟨sz, esz⟩ : ∃ z : Int, z = (a0.length : Int) := ⟨_, rfl⟩
    have lxL : (xs.length : Int) = L := by rw [lx, eL]
    refine ⟨_, rfl, wa, _, rfl, .inl hw, _, _, rfl, rfl, _, rfl, wa, xs, _, _, rfl, rfl, hw, at_of (j := 0) rfl e0, p0, _, rfl, .inr hp0, _, _, rfl, ?_⟩
    rw [show (fun i j : Int => V.int (i - j)) (xs.length : Int) 1 = V.int la by show V.int ((xs.length : Int) - 1) = _; rw [lx, ela], show ((a0.map V.str).length : Int) = sz by rw [List.length_map, esz]]
    have s0 := Same.refl H
    refine ⟨(show 0 ≤ sizeLine by decide), fun p1x hq1 => ?_⟩
    have z1 := Same.new (o := .tup []) hq1
    have d1 : Dd K (upd H p1x (.tup [])) (.ref p1x) (.tuple []) := .tup (.of upd_same) (.nil)
    replace s0 := s0.trans z1
    generalize upd H p1x (.tup []) = G1 at z1 d1 s0 ⊢
    refine ⟨_, rfl, (show 2 ≤ sizeLine by decide), fun p2x hq2 => ?_⟩
    have z2 := Same.new (o := .tup [.int 0, .int la]) hq2
    have d2 : Dd K (upd G1 p2x (.tup [.int 0, .int la])) (.ref p2x) (.tuple [.int 0, .int la]) := .tup (.of upd_same) (.cons (.int _) (.cons (.int _) .nil))
    replace s0 := s0.trans z2
    generalize upd G1 p2x (.tup [.int 0, .int la]) = G2 at z2 d2 s0 ⊢
    replace d1 := d1.same z2
    refine ⟨_, rfl, _, rfl, (show 3 ≤ sizeLine by decide), fun p3x hq3 nx3 => ?_⟩
    have z3 := Same.new (o := .lst [.int 0, .int la, .int sz]) hq3
    have d3 : Dd K (upd G2 p3x (.lst [.int 0, .int la, .int sz])) (.ref p3x) (.list [.int 0, .int la, .int sz]) := .lst (.of upd_same) nx3 (.cons (.int _) (.cons (.int _) (.cons (.int _) .nil)))
    replace s0 := s0.trans z3
    generalize upd G2 p3x (.lst [.int 0, .int la, .int sz]) = G3 at z3 d3 s0 ⊢
    replace d1 := d1.same z3
    replace d2 := d2.same z3
    refine ⟨_, rfl, _, rfl, (show 4 ≤ sizeLine by decide), fun p4x hq4 => ?_⟩
    have z4 := Same.new (o := .tup [.int 0, .int la, .int sz, .int 0]) hq4
    have d4 : Dd K (upd G3 p4x (.tup [.int 0, .int la, .int sz, .int 0])) (.ref p4x) (.tuple [.int 0, .int la, .int sz, .int 0]) := .tup (.of upd_same) (.cons (.int _) (.cons (.int _) (.cons (.int _) (.cons (.int _) .nil))))
    replace s0 := s0.trans z4
    generalize upd G3 p4x (.tup [.int 0, .int la, .int sz, .int 0]) = G4 at z4 d4 s0 ⊢
    replace d1 := d1.same z4
    replace d2 := d2.same z4
    replace d3 := d3.same z4
    refine ⟨_, rfl, wa, _, rfl, .inl (s0.seq hw), ?_⟩
    rw [lxL]
    refine ⟨_, rfl, (show 3 ≤ sizeLine by decide), fun p5x hq5 => ?_⟩
    have z5 := Same.new (o := .tup [.int 0, .int L, .int sz]) hq5
    have d5 : Dd K (upd G4 p5x (.tup [.int 0, .int L, .int sz])) (.ref p5x) (.tuple [.int 0, .int L, .int sz]) := .tup (.of upd_same) (.cons (.int _) (.cons (.int _) (.cons (.int _) .nil)))
    replace s0 := s0.trans z5
    generalize upd G4 p5x (.tup [.int 0, .int L, .int sz]) = G5 at z5 d5 s0 ⊢
    replace d1 := d1.same z5
    replace d2 := d2.same z5
    replace d3 := d3.same z5
    replace d4 := d4.same z5
    refine ⟨_, rfl, _, rfl, _, rfl, (show 3 ≤ sizeLine by decide), fun p6x hq6 => ?_⟩
    have z6 := Same.new (o := .tup [.int la, .int la, .int sz]) hq6
    have d6 : Dd K (upd G5 p6x (.tup [.int la, .int la, .int sz])) (.ref p6x) (.tuple [.int la, .int la, .int sz]) := .tup (.of upd_same) (.cons (.int _) (.cons (.int _) (.cons (.int _) .nil)))
    replace s0 := s0.trans z6
    generalize upd G5 p6x (.tup [.int la, .int la, .int sz]) = G6 at z6 d6 s0 ⊢
    replace d1 := d1.same z6
    replace d2 := d2.same z6
    replace d3 := d3.same z6
    replace d4 := d4.same z6
    replace d5 := d5.same z6
    refine ⟨(show 8 ≤ sizeLine by decide), fun l1 hql1 nql1 => ?_⟩
    have zl1 := Same.new (o := .lst [.non, .int 5, .ref p1x, .ref p2x, .ref p3x, .ref p4x, .ref p5x, .ref p6x]) hql1
    have gl1 := upd_same (H := G6) (a := l1) (o := .lst [.non, .int 5, .ref p1x, .ref p2x, .ref p3x, .ref p4x, .ref p5x, .ref p6x])
    replace s0 := s0.trans zl1
    generalize upd G6 l1 (.lst [.non, .int 5, .ref p1x, .ref p2x, .ref p3x, .ref p4x, .ref p5x, .ref p6x]) = Gl1 at zl1 gl1 s0 ⊢
    replace d1 := d1.same zl1
    replace d2 := d2.same zl1
    replace d3 := d3.same zl1
    replace d4 := d4.same zl1
    replace d5 := d5.same zl1
    replace d6 := d6.same zl1
    refine ⟨_, rfl, ?_⟩
    refine ⟨_, rfl, _, rfl, (show 3 ≤ sizeLine by decide), fun p7x hq7 => ?_⟩
    have z7 := Same.new (o := .tup [.int la, .int 0, .int sz]) hq7
    have d7 : Dd K (upd Gl1 p7x (.tup [.int la, .int 0, .int sz])) (.ref p7x) (.tuple [.int la, .int 0, .int sz]) := .tup (.of upd_same) (.cons (.int _) (.cons (.int _) (.cons (.int _) .nil)))
    replace s0 := s0.trans z7
    generalize upd Gl1 p7x (.tup [.int la, .int 0, .int sz]) = G7 at z7 d7 s0 ⊢
    replace d1 := d1.same z7
    replace d2 := d2.same z7
    replace d3 := d3.same z7
    replace d4 := d4.same z7
    replace d5 := d5.same z7
    replace d6 := d6.same z7
    replace gl1 := z7 _ _ gl1
    refine ⟨_, rfl, _, _, rfl, rfl, (show 3 ≤ sizeLine by decide), fun p8x hq8 => ?_⟩
    have z8 := Same.new (o := .tup [.int 0, .int la, .int (0 - 1)]) hq8
    have d8 : Dd K (upd G7 p8x (.tup [.int 0, .int la, .int (0 - 1)])) (.ref p8x) (.tuple [.int 0, .int la, .int (0 - 1)]) := .tup (.of upd_same) (.cons (.int _) (.cons (.int _) (.cons (.int _) .nil)))
    replace s0 := s0.trans z8
    generalize upd G7 p8x (.tup [.int 0, .int la, .int (0 - 1)]) = G8 at z8 d8 s0 ⊢
    replace d1 := d1.same z8
    replace d2 := d2.same z8
    replace d3 := d3.same z8
    replace d4 := d4.same z8
    replace d5 := d5.same z8
    replace d6 := d6.same z8
    replace d7 := d7.same z8
    replace gl1 := z8 _ _ gl1
    refine ⟨_, _, rfl, rfl, _, rfl, _, rfl, (show 3 ≤ sizeLine by decide), fun p9x hq9 => ?_⟩
    have z9 := Same.new (o := .tup [.int (0 - 1), .int la, .int sz]) hq9
    have d9 : Dd K (upd G8 p9x (.tup [.int (0 - 1), .int la, .int sz])) (.ref p9x) (.tuple [.int (0 - 1), .int la, .int sz]) := .tup (.of upd_same) (.cons (.int _) (.cons (.int _) (.cons (.int _) .nil)))
    replace s0 := s0.trans z9
    generalize upd G8 p9x (.tup [.int (0 - 1), .int la, .int sz]) = G9 at z9 d9 s0 ⊢
    replace d1 := d1.same z9
    replace d2 := d2.same z9
    replace d3 := d3.same z9
    replace d4 := d4.same z9
    replace d5 := d5.same z9
    replace d6 := d6.same z9
    replace d7 := d7.same z9
    replace d8 := d8.same z9
    replace gl1 := z9 _ _ gl1
    refine ⟨_, rfl, _, rfl, _, _, rfl, rfl, (show 3 ≤ sizeLine by decide), fun p10x hq10 => ?_⟩
    have z10 := Same.new (o := .tup [.int 0, .int la, .int (sz + 40)]) hq10
    have d10 : Dd K (upd G9 p10x (.tup [.int 0, .int la, .int (sz + 40)])) (.ref p10x) (.tuple [.int 0, .int la, .int (sz + 40)]) := .tup (.of upd_same) (.cons (.int _) (.cons (.int _) (.cons (.int _) .nil)))
    replace s0 := s0.trans z10
    generalize upd G9 p10x (.tup [.int 0, .int la, .int (sz + 40)]) = G10 at z10 d10 s0 ⊢
    replace d1 := d1.same z10
    replace d2 := d2.same z10
    replace d3 := d3.same z10
    replace d4 := d4.same z10
    replace d5 := d5.same z10
    replace d6 := d6.same z10
    replace d7 := d7.same z10
    replace d8 := d8.same z10
    replace d9 := d9.same z10
    replace gl1 := z10 _ _ gl1
    refine ⟨_, _, rfl, rfl, (⟨by decide, by decide, by decide⟩ : CPow 10 30), _, rfl, (show 3 ≤ sizeLine by decide), fun p11x hq11 => ?_⟩
    have z11 := Same.new (o := .tup [.int 0, .int (10 ^ (30 : Int).toNat), .int sz]) hq11
    have d11 : Dd K (upd G10 p11x (.tup [.int 0, .int (10 ^ (30 : Int).toNat), .int sz])) (.ref p11x) (.tuple [.int 0, .int (10 ^ (30 : Int).toNat), .int sz]) := .tup (.of upd_same) (.cons (.int _) (.cons (.int _) (.cons (.int _) .nil)))
    replace s0 := s0.trans z11
    generalize upd G10 p11x (.tup [.int 0, .int (10 ^ (30 : Int).toNat), .int sz]) = G11 at z11 d11 s0 ⊢
    replace d1 := d1.same z11
    replace d2 := d2.same z11
    replace d3 := d3.same z11
    replace d4 := d4.same z11
    replace d5 := d5.same z11
    replace d6 := d6.same z11
    replace d7 := d7.same z11
    replace d8 := d8.same z11
    replace d9 := d9.same z11
    replace d10 := d10.same z11
    replace gl1 := z11 _ _ gl1
    refine ⟨(show 5 ≤ sizeLine by decide), fun l2 hql2 nql2 => ?_⟩
    have zl2 := Same.new (o := .lst [.ref p7x, .ref p8x, .ref p9x, .ref p10x, .ref p11x]) hql2
    have gl2 := upd_same (H := G11) (a := l2) (o := .lst [.ref p7x, .ref p8x, .ref p9x, .ref p10x, .ref p11x])
    replace s0 := s0.trans zl2
    generalize upd G11 l2 (.lst [.ref p7x, .ref p8x, .ref p9x, .ref p10x, .ref p11x]) = Gl2 at zl2 gl2 s0 ⊢
    replace d1 := d1.same zl2
    replace d2 := d2.same zl2
    replace d3 := d3.same zl2
    replace d4 := d4.same zl2
    replace d5 := d5.same zl2
    replace d6 := d6.same zl2
    replace d7 := d7.same zl2
    replace d8 := d8.same zl2
    replace d9 := d9.same zl2
    replace d10 := d10.same zl2
    replace d11 := d11.same zl2
    replace gl1 := zl2 _ _ gl1
    refine ⟨l1, l2, _, _, rfl, rfl, gl1, gl2, (show 8 + 5 ≤ sizeLine by decide), fun l3 hql3 nql3 => ?_⟩
    have zl3 := Same.new (o := .lst ([.non, .int 5, .ref p1x, .ref p2x, .ref p3x, .ref p4x, .ref p5x, .ref p6x] ++ [.ref p7x, .ref p8x, .ref p9x, .ref p10x, .ref p11x])) hql3
    have gl3 : (upd Gl2 l3 (.lst ([.non, .int 5, .ref p1x, .ref p2x, .ref p3x, .ref p4x, .ref p5x, .ref p6x] ++ [.ref p7x, .ref p8x, .ref p9x, .ref p10x, .ref p11x]))) l3 = some (.lst [.non, .int 5, .ref p1x, .ref p2x, .ref p3x, .ref p4x, .ref p5x, .ref p6x, .ref p7x, .ref p8x, .ref p9x, .ref p10x, .ref p11x]) := upd_same
    replace s0 := s0.trans zl3
    generalize upd Gl2 l3 (.lst ([.non, .int 5, .ref p1x, .ref p2x, .ref p3x, .ref p4x, .ref p5x, .ref p6x] ++ [.ref p7x, .ref p8x, .ref p9x, .ref p10x, .ref p11x])) = Gl3 at zl3 gl3 s0 ⊢
    replace d1 := d1.same zl3
    replace d2 := d2.same zl3
    replace d3 := d3.same zl3
    replace d4 := d4.same zl3
    replace d5 := d5.same zl3
    replace d6 := d6.same zl3
    replace d7 := d7.same zl3
    replace d8 := d8.same zl3
    replace d9 := d9.same zl3
    replace d10 := d10.same zl3
    replace d11 := d11.same zl3
    refine ⟨_, rfl, ?_⟩
    refine ⟨_, rfl, _, rfl, (show 3 ≤ sizeLine by decide), fun p12x hq12 => ?_⟩
    have z12 := Same.new (o := .tup [.bl false, .int la, .int sz]) hq12
    have d12 : Dd K (upd Gl3 p12x (.tup [.bl false, .int la, .int sz])) (.ref p12x) (.tuple [.bool false, .int la, .int sz]) := .tup (.of upd_same) (.cons (.bl _) (.cons (.int _) (.cons (.int _) .nil)))
    replace s0 := s0.trans z12
    generalize upd Gl3 p12x (.tup [.bl false, .int la, .int sz]) = G12 at z12 d12 s0 ⊢
    replace d1 := d1.same z12
    replace d2 := d2.same z12
    replace d3 := d3.same z12
    replace d4 := d4.same z12
    replace d5 := d5.same z12
    replace d6 := d6.same z12
    replace d7 := d7.same z12
    replace d8 := d8.same z12
    replace d9 := d9.same z12
    replace d10 := d10.same z12
    replace d11 := d11.same z12
    replace gl3 := z12 _ _ gl3
    refine ⟨_, rfl, (show 3 ≤ sizeLine by decide), fun p13x hq13 => ?_⟩
    have z13 := Same.new (o := .tup [.int 0, .int la, .non]) hq13
    have d13 : Dd K (upd G12 p13x (.tup [.int 0, .int la, .non])) (.ref p13x) (.tuple [.int 0, .int la, .none]) := .tup (.of upd_same) (.cons (.int _) (.cons (.int _) (.cons .non .nil)))
    replace s0 := s0.trans z13
    generalize upd G12 p13x (.tup [.int 0, .int la, .non]) = G13 at z13 d13 s0 ⊢
    replace d1 := d1.same z13
    replace d2 := d2.same z13
    replace d3 := d3.same z13
    replace d4 := d4.same z13
    replace d5 := d5.same z13
    replace d6 := d6.same z13
    replace d7 := d7.same z13
    replace d8 := d8.same z13
    replace d9 := d9.same z13
    replace d10 := d10.same z13
    replace d11 := d11.same z13
    replace d12 := d12.same z13
    replace gl3 := z13 _ _ gl3
    refine ⟨_, rfl, _, rfl, (show 3 ≤ sizeLine by decide), fun p14x hq14 => ?_⟩
    have z14 := Same.new (o := .tup [.str "0", .int la, .int sz]) hq14
    have d14 : Dd K (upd G13 p14x (.tup [.str "0", .int la, .int sz])) (.ref p14x) (.tuple [.str "0", .int la, .int sz]) := .tup (.of upd_same) (.cons (.str _) (.cons (.int _) (.cons (.int _) .nil)))
    replace s0 := s0.trans z14
    generalize upd G13 p14x (.tup [.str "0", .int la, .int sz]) = G14 at z14 d14 s0 ⊢
    replace d1 := d1.same z14
    replace d2 := d2.same z14
    replace d3 := d3.same z14
    replace d4 := d4.same z14
    replace d5 := d5.same z14
    replace d6 := d6.same z14
    replace d7 := d7.same z14
    replace d8 := d8.same z14
    replace d9 := d9.same z14
    replace d10 := d10.same z14
    replace d11 := d11.same z14
    replace d12 := d12.same z14
    replace d13 := d13.same z14
    replace gl3 := z14 _ _ gl3
    refine ⟨_, rfl, (show 1 ≤ sizeLine by decide), fun p15x hq15 => ?_⟩
    have z15 := Same.new (o := .tup [.int la]) hq15
    have d15 : Dd K (upd G14 p15x (.tup [.int la])) (.ref p15x) (.tuple [.int la]) := .tup (.of upd_same) (.cons (.int _) .nil)
    replace s0 := s0.trans z15
    generalize upd G14 p15x (.tup [.int la]) = G15 at z15 d15 s0 ⊢
    replace d1 := d1.same z15
    replace d2 := d2.same z15
    replace d3 := d3.same z15
    replace d4 := d4.same z15
    replace d5 := d5.same z15
    replace d6 := d6.same z15
    replace d7 := d7.same z15
    replace d8 := d8.same z15
    replace d9 := d9.same z15
    replace d10 := d10.same z15
    replace d11 := d11.same z15
    replace d12 := d12.same z15
    replace d13 := d13.same z15
    replace d14 := d14.same z15
    replace gl3 := z15 _ _ gl3
    refine ⟨_, rfl, (show 3 ≤ sizeLine by decide), fun p16x hq16 => ?_⟩
    have z16 := Same.new (o := .tup [.int 0, .ref p15x, .int sz]) hq16
    have d16 : Dd K (upd G15 p16x (.tup [.int 0, .ref p15x, .int sz])) (.ref p16x) (.tuple [.int 0, .tuple [.int la], .int sz]) := .tup (.of upd_same) (.cons (.int _) (.cons (d15.same z16) (.cons (.int _) .nil)))
    replace s0 := s0.trans z16
    generalize upd G15 p16x (.tup [.int 0, .ref p15x, .int sz]) = G16 at z16 d16 s0 ⊢
    replace d1 := d1.same z16
    replace d2 := d2.same z16
    replace d3 := d3.same z16
    replace d4 := d4.same z16
    replace d5 := d5.same z16
    replace d6 := d6.same z16
    replace d7 := d7.same z16
    replace d8 := d8.same z16
    replace d9 := d9.same z16
    replace d10 := d10.same z16
    replace d11 := d11.same z16
    replace d12 := d12.same z16
    replace d13 := d13.same z16
    replace d14 := d14.same z16
    replace d15 := d15.same z16
    replace gl3 := z16 _ _ gl3
    refine fun p17x hq17 => ?_
    have z17 := Same.new (o := .dK []) hq17
    have d17 : Dd K (upd G16 p17x (.dK [])) (.ref p17x) (.dict []) := .dct upd_same (fun h => nomatch h) .nil
    replace s0 := s0.trans z17
    generalize upd G16 p17x (.dK []) = G17 at z17 d17 s0 ⊢
    replace d1 := d1.same z17
    replace d2 := d2.same z17
    replace d3 := d3.same z17
    replace d4 := d4.same z17
    replace d5 := d5.same z17
    replace d6 := d6.same z17
    replace d7 := d7.same z17
    replace d8 := d8.same z17
    replace d9 := d9.same z17
    replace d10 := d10.same z17
    replace d11 := d11.same z17
    replace d12 := d12.same z17
    replace d13 := d13.same z17
    replace d14 := d14.same z17
    replace d15 := d15.same z17
    replace d16 := d16.same z17
    replace gl3 := z17 _ _ gl3
    refine ⟨(show 6 ≤ sizeLine by decide), fun l4 hql4 nql4 => ?_⟩
    have zl4 := Same.new (o := .lst [.ref p12x, .ref p13x, .ref p14x, .ref p16x, .ref p17x, .str "round"]) hql4
    have gl4 := upd_same (H := G17) (a := l4) (o := .lst [.ref p12x, .ref p13x, .ref p14x, .ref p16x, .ref p17x, .str "round"])
    replace s0 := s0.trans zl4
    generalize upd G17 l4 (.lst [.ref p12x, .ref p13x, .ref p14x, .ref p16x, .ref p17x, .str "round"]) = Gl4 at zl4 gl4 s0 ⊢
    replace d1 := d1.same zl4
    replace d2 := d2.same zl4
    replace d3 := d3.same zl4
    replace d4 := d4.same zl4
    replace d5 := d5.same zl4
    replace d6 := d6.same zl4
    replace d7 := d7.same zl4
    replace d8 := d8.same zl4
    replace d9 := d9.same zl4
    replace d10 := d10.same zl4
    replace d11 := d11.same zl4
    replace d12 := d12.same zl4
    replace d13 := d13.same zl4
    replace d14 := d14.same zl4
    replace d15 := d15.same zl4
    replace d16 := d16.same zl4
    replace d17 := d17.same zl4
    replace gl3 := zl4 _ _ gl3
    refine ⟨l3, l4, _, _, rfl, rfl, gl3, gl4, (show 13 + 6 ≤ sizeLine by decide), fun l5 hql5 nql5 => ?_⟩
    have zl5 := Same.new (o := .lst ([.non, .int 5, .ref p1x, .ref p2x, .ref p3x, .ref p4x, .ref p5x, .ref p6x, .ref p7x, .ref p8x, .ref p9x, .ref p10x, .ref p11x] ++ [.ref p12x, .ref p13x, .ref p14x, .ref p16x, .ref p17x, .str "round"])) hql5
    have gl5 : (upd Gl4 l5 (.lst ([.non, .int 5, .ref p1x, .ref p2x, .ref p3x, .ref p4x, .ref p5x, .ref p6x, .ref p7x, .ref p8x, .ref p9x, .ref p10x, .ref p11x] ++ [.ref p12x, .ref p13x, .ref p14x, .ref p16x, .ref p17x, .str "round"]))) l5 = some (.lst [.non, .int 5, .ref p1x, .ref p2x, .ref p3x, .ref p4x, .ref p5x, .ref p6x, .ref p7x, .ref p8x, .ref p9x, .ref p10x, .ref p11x, .ref p12x, .ref p13x, .ref p14x, .ref p16x, .ref p17x, .str "round"]) := upd_same
    replace s0 := s0.trans zl5
    generalize upd Gl4 l5 (.lst ([.non, .int 5, .ref p1x, .ref p2x, .ref p3x, .ref p4x, .ref p5x, .ref p6x, .ref p7x, .ref p8x, .ref p9x, .ref p10x, .ref p11x] ++ [.ref p12x, .ref p13x, .ref p14x, .ref p16x, .ref p17x, .str "round"])) = Gl5 at zl5 gl5 s0 ⊢
    replace d1 := d1.same zl5
    replace d2 := d2.same zl5
    replace d3 := d3.same zl5
    replace d4 := d4.same zl5
    replace d5 := d5.same zl5
    replace d6 := d6.same zl5
    replace d7 := d7.same zl5
    replace d8 := d8.same zl5
    replace d9 := d9.same zl5
    replace d10 := d10.same zl5
    replace d11 := d11.same zl5
    replace d12 := d12.same zl5
    replace d13 := d13.same zl5
    replace d14 := d14.same zl5
    replace d15 := d15.same zl5
    replace d16 := d16.same zl5
    replace d17 := d17.same zl5
    refine q l5 _ [.none, .int 5, .tuple [], .tuple [.int 0, .int la], .list [.int 0, .int la, .int sz], .tuple [.int 0, .int la, .int sz, .int 0], .tuple [.int 0, .int L, .int sz], .tuple [.int la, .int la, .int sz], .tuple [.int la, .int 0, .int sz], .tuple [.int 0, .int la, .int (0 - 1)], .tuple [.int (0 - 1), .int la, .int sz], .tuple [.int 0, .int la, .int (sz + 40)], .tuple [.int 0, .int (10 ^ (30 : Int).toNat), .int sz], .tuple [.bool false, .int la, .int sz], .tuple [.int 0, .int la, .none], .tuple [.str "0", .int la, .int sz], .tuple [.int 0, .tuple [.int la], .int sz], .dict [], .str "round"] _ s0 gl5 (.cons .non (.cons (.int _) (.cons d1 (.cons d2 (.cons d3 (.cons d4 (.cons d5 (.cons d6 (.cons d7 (.cons d8 (.cons d9 (.cons d10 (.cons d11 (.cons d12 (.cons d13 (.cons d14 (.cons d16 (.cons d17 (.cons (.str _) .nil))))))))))))))))))) ?_
    intro d hd js
    have h0 : 1 ≤ L := by omega
    have lw : ∀ x : Int, x = 0 → walk.getD (toNatD (.int x)) [] = a0 := fun x e => by
      subst e
      rw [show toNatD (.int 0) = 0 from rfl, List.getD_eq_getElem?_getD, ea0]
      rfl
    have w0 := lw 0 rfl
    rw [← eL] at ela
    simp only [List.mem_cons, List.not_mem_nil, or_false] at hd
    have big : (10 : Int) ^ (30 : Int).toNat = 1000000000000000000000000000000 := by decide +kernel
    rcases hd with rfl | rfl | rfl | rfl | rfl | rfl | rfl | rfl | rfl | rfl | rfl | rfl | rfl | rfl | rfl | rfl | rfl | rfl | rfl
    all_goals first | rfl | skip
    all_goals (simp only [roundD, numD, ← eL, w0, ← esz, big]; try rfl)
    all_goals (rw [Bool.eq_false_iff]; intro h; simp only [Bool.and_eq_true, decide_eq_true_eq, toNatD] at h; first | omega | exact absurd h.1.1.2 (by decide) | exact absurd h.1.2 (by decide) | (have h3 := of_decide_eq_true h.1.1.2.2; omega))
end
end K28
/-! sorted(t, key=f) of a tuple, f a def of one's own. -/
namespace Ld
open PySem PySem.W L2 PyProof.Rows
section
variable {prog : Program} {w : World} {A : Around} {E : Value → Shared → Prop} {s : Shared}
/-- the heap with one more list that holds the items -/
def heap1 (h : Heap) (vs : Array Value) : Heap := (h.push ⟨.type "list", none, .seq #[] 0, #[]⟩).update h.objs.size (Obj.mapSeq fun z => z ++ vs)
theorem heap1_size {h : Heap} {vs : Array Value} : (heap1 h vs).objs.size = h.objs.size + 1 := by
  unfold heap1
  rw [Heap.size_update, Heap.size_push]
theorem heap1_keep {h : Heap} {vs : Array Value} (b : Addr) (o : Obj) (e : h.get? b = some o) : (heap1 h vs).get? b = some o := by
  have lt := Heap.lt_size e
  unfold heap1
  rw [Heap.get?_update_other _ _ (Nat.ne_of_gt lt)]
  exact Heap.get?_push_of_some _ e
/-- the items of a tuple in a list of their own: the heap is one object larger -/
theorem items_of {l : Addr} {o : Obj} {vs : Array Value} {n : Nat} {Q : List Value → Shared → Prop} (at_ : s.heap.get? l = some o) (cls : o.cls = .type "tuple") (dat : o.data = .seq vs n) (fits : vs.size ≤ sizeLine)
    (q : Q vs.toList { s with heap := heap1 s.heap vs }) : wpAny (model prog w) A (collect (.ref l)) Q E s := by
  let M := s.heap.objs.size
  have new : (s.heap.push ⟨.type "list", none, .seq #[] 0, #[]⟩).get? M = some ⟨.type "list", none, .seq #[] 0, #[]⟩ := Heap.get?_push_size _ rfl
  have full := Heap.get?_update_self (Obj.mapSeq fun z => z ++ vs) new rfl
  have last : wpAny (model prog w) A (load M >>= fun b => match b.data with | .seq xs _ => pure xs.toList | _ => unsupported "internal:collect") Q E { s with heap := heap1 s.heap vs } :=
    wpAny_bind (wpAny_load full (wpAny_pure (by rw [show ((#[] : Array Value) ++ vs).toList = vs.toList by simp]; exact q)))
  have main := wpAny_extend_seq (A := A) (w := w) (prog := prog) (R := fun r z => r = .ok (.ret (.ref M)) ∧ z = { s with heap := heap1 s.heap vs }) (s := { s with heap := s.heap.push ⟨.type "list", none, .seq #[] 0, #[]⟩ })
    M l (.ref M) 0 (.inr rfl) new (Heap.get?_push_of_some _ at_) cls dat ⟨rfl, rfl⟩ fits
  delta collect
  apply wpAny_bind
  apply wpAny_runValue
  apply codeAny_builtin F.entry_proto_collect
  rw [Around.under_plainId F.plain_proto_collect]
  apply wpAny_bind
  refine wpAny_newObj_type ?_ (Nat.zero_le _)
  apply wpAny_pure
  refine ⟨plainId_quiet F.plain_list_iadd _, ?_⟩
  apply codeAny_builtin F.entry_list_iadd
  rw [Around.under_plainId F.plain_list_iadd]
  refine wpAny_mono main (fun f z y => ?_) fun _ _ y => nomatch y.1
  cases f with
  | done g =>
    obtain ⟨y, rfl⟩ := y
    cases y
    exact last
  | again c =>
    refine ⟨y.1, codeAny_mono y.2 fun _ _ y => ?_⟩
    obtain ⟨rfl, rfl⟩ := y
    exact last
end
section
variable {prog : Program} {w : World} {A : Around} {E : Value → Shared → Prop} {s : Shared}
/-- what sorted does with a tuple: its items in a new list, which is sorted -/
theorem sorted_tup {l : Addr} {vs : List Value} {kw : List (Str × Value)} {Q : Value → Shared → Prop} (tup : IsTup s.heap l vs.toArray) (fits : vs.length ≤ sizeLine) (ok1 : argsOk "sorted" ⟨[.ref l], kw⟩) (ok2 : ∀ x, argsOk "list.sort" ⟨[.ref x], kw⟩)
    (body : ∀ (h1 : Heap) (E' : Value → Shared → Prop), (∀ b o, s.heap.get? b = some o → h1.get? b = some o) → s.heap.objs.size ≤ h1.objs.size →
      wpAny (model prog w) A.in1.in1 (Builtin.«list.sort» ⟨[.ref h1.objs.size], kw⟩) (fun f s' => f = .done (.ret .none) ∧ Q (.ref h1.objs.size) s') E' { s with heap := h1.push (seqObj "list" vs.toArray 0) }) :
    wpAny (model prog w) A (call (.builtin "sorted") [.ref l] kw) Q E s := by
  obtain ⟨o, at_, cls, n, dat⟩ := tup
  refine call_function_entry_kw kind_sorted plain_sorted entry_sorted ok1 ?_
  unfold Builtin.«sorted»
  refine wpAny_bind (wpAny_pure (wpAny_bind (items_of at_ cls dat (by rw [List.size_toArray]; exact fits) ?_)))
  rw [show vs.toArray.toList = vs from rfl]
  refine wpAny_bind (wpAny_newList (wpAny_bind (wpAny_holding ?_)) fits)
  generalize eh1 : heap1 s.heap vs.toArray = h1
  have keep : ∀ b o, s.heap.get? b = some o → h1.get? b = some o := by rw [← eh1]; exact heap1_keep
  have big : s.heap.objs.size ≤ h1.objs.size := by rw [← eh1, heap1_size]; omega
  have at2 : (h1.push (seqObj "list" vs.toArray 0)).get? h1.objs.size = some (seqObj "list" vs.toArray 0) := Heap.get?_push_size _ rfl
  refine wpAny_call_entry_kw slot_list_sort ⟨_, at2, rfl⟩ entry_list_sort (wpAny_mono (body h1 _ keep big) (fun f s' z => ?_) fun _ _ e => e) (ok2 _)
  exact ⟨_, z.1, wpAny_pure ⟨_, rfl, z.2⟩⟩
end
section
variable {X : Cx}
/-- sorted(t, key=f): zs, the items with their keys -/
def rSortKT (K : PySem.W.Frag) (f : Addr) (sp : Sp) : List V → List V → Hp → VK → Prop := fun vs ws H Q => ∃ (l : Addr) (zs : List (V × PyData)), vs = [.ref l] ∧ ws = [.ref f] ∧ SqT K H l (zs.map Prod.fst) ∧ zs.length ≤ 1000 ∧ AllAlike (zs.map Prod.snd) ∧ Sortable (zs.map Prod.snd) ∧
  (∀ z ∈ zs, bareB z.2 = true ∧ z.2.depth ≤ 8 ∧ ∀ H1, Same H H1 → sp [z.1] H1 (fun v H2 => Same H1 H2 ∧ Dp K H2 v z.2) E0) ∧
  ∀ H1 q, Same H H1 → H1 q = none → q ≠ sysModules → Q (.ref q) (upd H1 q (.lst ((zs.mergeSort (dataLe false Prod.snd)).map Prod.fst)))
theorem cr_sortKT {j : Nat} {fd : FuncData} {p : Str} {sp : Sp} (F : FnOk X.prog X.w X.K X.mg X.base CX0 j f fd [p] sp) (hr : Room (j + 2) X.A) (hb : Binds X.K fd [p] []) : CallRK X (.builtin "sorted") [Str.ofString "key"] (rSortKT X.K f sp) := by
  intro pins0 s0 σ0 H0 xs0 ws0 us0 vs0 Q0 I0 r0 r1 ⟨l, zs, e0, e1, hl, hn, hal, hsk, hz, q0⟩
  subst e0 e1
  obtain ⟨u0, rfl, rx0⟩ := vals1 r0
  obtain ⟨w0, rfl, rw0⟩ := vals1 r1
  cases rx0
  cases rw0
  obtain ⟨js, rj, tj, zj⟩ := I0.tuple hl
  have lj : js.length = zs.length := by rw [← rj.length, List.length_map]
  have line : zs.length ≤ sizeLine := Nat.le_trans hn (by decide)
  have rel : EachIs (fun (u : Value) (z : V × PyData) => RelV z.1 u) js zs := vals_each rj
  refine sorted_tup tj (by rw [lj]; exact line) (ksk_s1 _ _) (fun _ => ksk_l1 _ _) fun h1 E' keep big => ?_
  show wpAny _ _ (Builtin.«list.sort» ⟨[.ref h1.objs.size], [(Str.ofString "key", .ref f)]⟩) _ _ _
  rw [ksk_t1]
  have sz : (h1.push (seqObj "list" js.toArray 0)).objs.size = h1.objs.size + 1 := size_push' ..
  have bigger : s0.heap.objs.size ≤ (h1.push (seqObj "list" js.toArray 0)).objs.size := by omega
  have keep0 : ∀ b o, s0.heap.get? b = some o → (h1.push (seqObj "list" js.toArray 0)).get? b = some o := fun b o q => Heap.get?_push_of_some _ (keep b o q)
  have frN : ∀ b, s0.heap.objs.size ≤ b → b ∉ frs X.stack := fun b hb hm => by
    obtain ⟨_, o', e', _⟩ := I0.env0.funs.mem hm
    exact absurd (Heap.lt_size e') (Nat.not_lt.mpr hb)
  refine key_tree (X := X) (pins := pins0) (σ := σ0) (H := H0) (s := s0) (kz := zs.map Prod.snd) (H0 := H0) (s0 := { s0 with heap := h1.push (seqObj "list" js.toArray 0) }) (a := h1.objs.size) I0 ⟨rfl, I0.bare, Un.kept keep0, I0.hok.kept keep0, Same.refl H0⟩ (Heap.get?_none_of_le big) frN (I0.hok.fresh big) big
    (Heap.get?_push_size _ rfl) bigger (by rw [List.length_map, lj]) (by rw [lj]; exact line) hal hsk (fun d hd => ?_) (fun d hd => ?_) (fun i v k hv hk => ?_) fun H3 s3 out c J3 n3 o3 ko => ⟨rfl, ?_⟩
  · obtain ⟨z, hz1, rfl⟩ := List.mem_map.mp hd
    exact (hz z hz1).1
  · obtain ⟨z, hz1, rfl⟩ := List.mem_map.mp hd
    have := (hz z hz1).2.1
    have := hr.un
    show X.A.units + 1 + 1 + z.2.depth < cLine
    omega
  · rw [List.getElem?_map] at hk; obtain ⟨z, hz1, rfl⟩ := Option.map_eq_some_iff.mp hk
    have rz := rel.zip (v, z) (List.mem_of_getElem? (i := i) (by rw [List.getElem?_zip_eq_some]; exact ⟨hv, hz1⟩))
    exact fun H1 s1 J1 => J1.call I0 F hr.in1.in1 rfl hb rz ((hz z (List.mem_of_getElem? hz1)).2.2 H1 J1.same)
  · have ko' := keyedOut_each (R := fun (u : Value) (z : V × PyData) => RelV z.1 u) Prod.snd ko rel
    have ln : ((zs.mergeSort (dataLe false Prod.snd)).map Prod.fst).length ≤ sizeLine := by
      rw [List.length_map, List.length_mergeSort]
      exact line
    have J4 : Since X H0 s0 (upd H3 h1.objs.size (.lst ((zs.mergeSort (dataLe false Prod.snd)).map Prod.fst))) s3 :=
      ⟨J3.os, J3.bare, un_put J3.un (Heap.get?_none_of_le big) n3, hok_put J3.hok n3 ⟨ln, out, c, each_vals ko', o3⟩, J3.same.trans (Same.new n3)⟩
    exact ⟨.ref h1.objs.size, _, J4.inv I0, rfl, q0 H3 _ J3.same n3 (Nat.ne_of_gt (Nat.lt_of_lt_of_le I0.big big))⟩
end
end Ld
namespace K28
open PySem L2 Ld PyProof.Rows
/-! ### Table() -/
section
variable {P : Program} {w : World} {K : PySem.W.Frag} {mg : Str → Option Value} {base : Heap} {f : Addr} {fd : FuncData}
theorem dc_tup0 {e : Addr} {g : TG} {tk tv : TE} {vs : List Nat} {σ : L2.St} {H1 : Hp} {D : Addr} {Qd : Hp → Prop} (he : SqT K (upd H1 D (kdO P w D [])) e []) (hd : ∀ G, G = upd H1 D (kdO P w D []) → Qd G) :
    ∃ W : Nat → Nat → Hp → Prop, (∃ m, W 0 m (upd H1 D (kdO P w D []))) ∧ ∀ i m G, W i m G → ((Itt K e).stop i G ∧ Qd G) ∨ ((Itt K e).go i G ∧ ∃ Nx : Hp → Prop, (∀ G', Nx G' → ∃ m', m' < m ∧ W (i + 1) m' G') ∧
      ∀ x G', (Itt K e).yld i G x G' → g x (wipe σ vs) G' fun σ2 G2 => wipe σ2 vs = wipe σ vs ∧ tk σ2 G2 fun y G4 => tv σ2 G4 fun z G5 => moreN P w K D y z G5 Nx) :=
  ⟨fun _ _ G => G = upd H1 D (kdO P w D []), ⟨0, rfl⟩, fun i m G h => by
    subst h
    exact .inl ⟨⟨[], he, Nat.zero_le _⟩, hd _ rfl⟩⟩
def spInitE (P : Program) (w : World) (K : PySem.W.Frag) (CT : Addr) : Sp := fun vs H Q _ => ∃ (a dx e : Addr), vs = [.ref a, .ref e] ∧ H a = some (.ins CT dx []) ∧ SqT K H e [] ∧
  ∀ H', (∀ b o, b ≠ a → H b = some o → H' b = some o) → TabAt P w K CT H' a [] → Q .non H'
theorem good0 : Good [] := ⟨(fun r h => nomatch h), by decide, by decide⟩
theorem ok_initE {CT : Addr} {dvs : List V} (Fd : FunD K "__init__" "Table.__init__" (defArgs sInit) (defBody sInit) (defScope sInit) dvs [] f fd) (T : Tx mg) (Y : Ty mg) (C : Tcl K CT) (DR : Df P w K mg base 5 "is_rule" ["value"] (spRule K)) (DK : Df P w K mg base 2 "rule_key" ["rule"] (spRK K)) :
    FnOk P w K mg base CX0 6 f fd ["self", "rules"] (spInitE P w K CT) := by
  refine Fd.ok0 scTab (fun vs H Q E h => ?_) (fun cdv A outer s H vs Q E hr h => ?_)
  · obtain ⟨a, dx, e, rfl, _⟩ := h
    rfl
  · obtain ⟨a, dx, e, rfl, ha, he, q⟩ := h
    obtain ⟨tm, hm⟩ := Y.mr
    obtain ⟨fk, fdk, gk, kk, bk, FK⟩ := DK.ex
    have hu : (A.deeper (envOfC "Table.__init__" (defScope sInit) s.heap.objs.size f cdv)).units + 64 < cLine := hr.units
    have nd := scTab.nd
    refine ⟨_, pss_cons (ps_for PassesOwn.never rfl (pi_tup (pv 1)) (pg_name (i := 2) nd rfl (Or.inl rfl)) (pss_one (ps_if (pt_not (pt_val (pe_df DR hr (pa_cons (pv 2) pa_nil)))) pss_dead pss_nil)))
      (pss_cons (ps_setDcN (i := 3) (own := [("rule", 2)]) (g := gName 2) (Nat.lt_of_le_of_lt (Nat.add_le_add_left (by decide) _) hr.units) (by rfl) nd rfl rfl (sw_dict rfl rfl rfl rfl) (pi_tup (pv 1)) (blkOk_by (own := [("rule", 2)]) (N := ["self", "rules", "rule", "found"]) (sc := defScope sInit) (by decide +kernel))
          (fun _ _ _ _ _ => pg_name (i := 2) nd rfl (Or.inl rfl)) (fun _ _ _ _ _ => pe_slice (r := rSlW K) sl_tupK (pv 2) po_none (po_some pe_int)) (fun _ _ _ _ _ => pv 2))
      (pss_cons (ps_if (PW.pt (pw_or (pt_cmpR op_gt (pe_callB call_len_seq (by rfl) T.len PySem.boot_len (pa_cons (pv 1) pa_nil)) (pe_glob (v := .int 40) (by rfl) hm ⟨_, rfl⟩) (nomark _))
          (pw_or1 (pt_cmpR op_lt (pe_callB call_lenN (by rfl) T.len PySem.boot_len (pa_cons (pv 3) pa_nil)) (pe_callB call_len_seq (by rfl) T.len PySem.boot_len (pa_cons (pv 1) pa_nil)) (nomark _))))) pss_dead pss_nil)
      (pss_cons (ps_fld (pv 0) (pe_callTy call_tuple_of (by rfl) T.tuple (by decide +kernel) (pa_cons (pe_callBK (cr_sortKT FK (hr.mono (by decide)) bk) (by rfl) Y.sorted boot_sorted (pa_cons (pv 1) pa_nil) (pk_cons (pe_glob (v := .ref fk) (by rfl) gk rfl) pk_nil)) pa_nil)) rfl)
      (pss_cons (ps_fld (pv 0) (pv 3) rfl)
      (pss_one (ps_fld (pv 0) (pe_callBK (cr_maxDf rfl (Nat.lt_of_le_of_lt (Nat.add_le_add_left (by decide) _) hr.units)) (by rfl) T.max PyProof.Rows.boot_max (pa_cons (pe_lc (own := [("rule", 2)]) (g := gName 2) (tt := tYes) (by rfl) nd (pi_tup (pv 1)) (blkOk_by (own := [("rule", 2)]) (N := ["self", "rules", "rule", "found"]) (sc := defScope sInit) (by decide +kernel))
        (fun _ _ _ _ _ => pg_name (i := 2) nd rfl (Or.inl rfl)) (fun _ _ _ _ _ => pts_nil) (fun _ _ _ _ _ => pe_callB (r := rLenK K) call_lenK (by rfl) T.len PySem.boot_len (pa_cons (pe_ix (r := rIxT K) ix_tupK (pv 2) pe_int (fun _ _ => rfl)) pa_nil))) pa_nil) (pk_cons pe_int pk_nil)) rfl)))))), ?_⟩
    refine ⟨_, rfl, e, rfl, ⟨_, he⟩, for_tup (K := K) (a := e) (xs := []) (fun j σ G => G = H ∧ ∃ u, σ = [some (.ref a), some (.ref e), u, none]) ⟨rfl, none, rfl⟩ (fun j σ G _ h => by rw [h.1]; exact he) (fun i x σ G hx => by simp at hx) ?_⟩
    rintro σ G ⟨rfl, u, rfl⟩
    refine ⟨_, rfl, e, rfl, ⟨_, he⟩, fun D hD low => ?_⟩
    refine dc_tup0 (K := K) (same_T (Same.new hD) he) fun G1 e1 => ?_
    have s1 : Same G G1 := by rw [e1]; exact Same.new hD
    have he1 := same_T s1 he
    have hD1 : G1 D = some (kdO P w D []) := by rw [e1]; exact upd_same
    have ha1 := s1 _ _ ha
    clear e1
    have kd : KD P w K G1 D [] := ⟨hD1, low, Nat.zero_le _, fun x hx => nomatch hx⟩
    refine ⟨_, rfl, e, [], rfl, .inr he1, _, _, rfl, rfl, _, rfl, ?_⟩
    refine iteF ⟨_, rfl, D, [], rfl, kd, _, rfl, e, [], rfl, .inr he1, _, _, rfl, rfl, _, rfl, ?_⟩
    refine iteF ⟨_, rfl, e, [], rfl, rfl, he1, by decide, (fun d hd => nomatch hd), .inl (fun d hd => nomatch hd), (fun z hz => nomatch hz), fun H2 q1 s2 hq nq => ⟨q1, _, rfl, .inl ⟨.of upd_same, fun t ht => ⟨_, rfl, a, CT, dx, [], rfl, ?_, C.cls, C.no1, (by decide), ?_⟩⟩⟩⟩
    · exact (Same.new ht) _ _ ((Same.new hq) _ _ (s2 _ _ ha1))
    rw [List.mergeSort_nil, List.map_nil] at ht ⊢
    have s3 := s2.trans ((Same.new (o := .lst ([] : List V)) hq).trans (Same.new (o := .tup ([] : List V)) ht))
    have ht3 := upd_same (H := upd H2 q1 (.lst ([] : List V))) (a := t) (o := .tup ([] : List V))
    generalize upd (upd H2 q1 (.lst [])) t (.tup []) = G3 at s3 ht3 ⊢
    have ha3 : G3 a = some (.ins CT dx []) := s3 _ _ ha1
    refine ⟨_, rfl, _, rfl, a, CT, dx, _, rfl, upd_same, C.cls, C.no2, (show 1 < 1000 by decide), ?_⟩
    have hT : ∀ b zs, SqT K G3 b zs → SqT K (upd (upd G3 a (.ins CT dx (putF "_rules" (.ref t) []))) a (.ins CT dx (putF "_found" (.ref D) (putF "_rules" (.ref t) [])))) b zs := fun b zs z => sqT_ins (upd_same) (sqT_ins ha3 z)
    have hD3 : G3 D = some (kdO P w D []) := s3 _ _ hD1
    have nDa : D ≠ a := ne_of hD3 ha3 fun e => nomatch e
    have off : ∀ b o, b ≠ a → G3 b = some o → (upd (upd G3 a (.ins CT dx (putF "_rules" (.ref t) []))) a (.ins CT dx (putF "_found" (.ref D) (putF "_rules" (.ref t) [])))) b = some o := fun b o nb e => by
      rw [upd_ne nb, upd_ne nb]
      exact e
    have at4 := upd_same (H := upd G3 a (.ins CT dx (putF "_rules" (.ref t) []))) (a := a) (o := .ins CT dx (putF "_found" (.ref D) (putF "_rules" (.ref t) [])))
    have he4 := hT _ _ (same_T s3 he1)
    generalize upd (upd G3 a (.ins CT dx (putF "_rules" (.ref t) []))) a (.ins CT dx (putF "_found" (.ref D) (putF "_rules" (.ref t) []))) = G4 at hT off at4 he4 ⊢
    refine ⟨_, rfl, e, rfl, ⟨_, he4⟩, fun L hL => ?_⟩
    refine lc_tup (K := K) (a := e) (xs := []) (fun i G5 => Same G4 G5 ∧ G5 L = some (.lst [])) ⟨Same.new hL, upd_same⟩ (fun i G5 _ h => same_T h.1 he4) (fun i x G5 hx => by simp at hx) ?_
    rintro G5 ⟨s5, h5⟩
    refine ⟨L, [], 0, rfl, rfl, .of h5, fun m m0 m1 m2 => ?_⟩
    obtain rfl := m0 rfl
    refine ⟨_, rfl, a, CT, dx, _, rfl, s5 _ _ at4, C.cls, C.no3, (show 2 < 1000 by decide), ?_⟩
    have hT5 : ∀ b zs, SqT K G3 b zs → SqT K (upd G5 a (.ins CT dx (putF "_longest" (.int 0) (putF "_found" (.ref D) (putF "_rules" (.ref t) []))))) b zs := fun b zs z => sqT_ins (s5 _ _ at4) (same_T s5 (hT _ _ z))
    refine q _ (fun b o nb e => ?_) ⟨dx, t, D, [], [], 0, ?_, hT5 _ _ (.of ht3), .nil, good0, ⟨?_, low, Nat.zero_le _, fun x hx => nomatch hx⟩, ⟨fun k v e => (nomatch e), fun r hr => nomatch hr⟩, ⟨by decide, by decide, fun r hr => nomatch hr⟩⟩
    · rw [upd_ne nb]
      exact s5 _ _ (off _ _ nb (s3 _ _ (s1 _ _ e)))
    · rw [upd_same]
      rfl
    · rw [upd_ne nDa]
      exact s5 _ _ (off _ _ nDa hD3)
end
/-! ### Table(t), t a tuple of rules -/
section
variable {P : Program} {w : World} {K : PySem.W.Frag} {mg : Str → Option Value} {base : Heap} {f : Addr} {fd : FuncData}
theorem dc_tupN {P : Program} {w : World} {K : PySem.W.Frag} {a : Addr} {xs : List V} {g : TG} {tk tv : TE} {vs : List Nat} {σ : L2.St} {H1 : Hp} {D : Addr} {Qd : Hp → Prop} (Pv : Nat → Hp → Prop) (h0 : Pv 0 (upd H1 D (kdO P w D []))) (hl : ∀ i G, i ≤ xs.length → Pv i G → SqT K G a xs)
    (hs : ∀ i x G, xs[i]? = some x → Pv i G → g x (wipe σ vs) G fun σ2 G2 => wipe σ2 vs = wipe σ vs ∧ tk σ2 G2 fun y G4 => tv σ2 G4 fun z G5 => moreN P w K D y z G5 (Pv (i + 1))) (hd : ∀ G, Pv xs.length G → Qd G) :
    ∃ W : Nat → Nat → Hp → Prop, (∃ m, W 0 m (upd H1 D (kdO P w D []))) ∧ ∀ i m G, W i m G → ((Itt K a).stop i G ∧ Qd G) ∨ ((Itt K a).go i G ∧ ∃ Nx : Hp → Prop, (∀ G', Nx G' → ∃ m', m' < m ∧ W (i + 1) m' G') ∧
      ∀ x G', (Itt K a).yld i G x G' → g x (wipe σ vs) G' fun σ2 G2 => wipe σ2 vs = wipe σ vs ∧ tk σ2 G2 fun y G4 => tv σ2 G4 fun z G5 => moreN P w K D y z G5 Nx) := by
  refine ⟨fun i m G => m + i = xs.length ∧ Pv i G, ⟨xs.length, rfl, h0⟩, fun i m G ⟨e, p⟩ => ?_⟩
  have q := hl i G (by omega) p
  by_cases hlt : i < xs.length
  · refine Or.inr ⟨⟨xs, xs[i], q, List.getElem?_eq_getElem hlt⟩, Pv (i + 1), fun G' p' => ⟨m - 1, by omega, by omega, p'⟩, fun x G' y => ?_⟩
    obtain ⟨rfl, y⟩ := y
    exact hs i x G' (y xs q) p
  · have e2 : i = xs.length := by omega
    subst e2
    exact Or.inl ⟨⟨xs, q, Nat.le_refl _⟩, hd G p⟩
def spInitT (P : Program) (w : World) (K : PySem.W.Frag) (CT : Addr) : Sp := fun vs H Q _ => ∃ (a dx la : Addr) (xs : List V) (rs : List Rl), vs = [.ref a, .ref la] ∧ H a = some (.ins CT dx []) ∧ SqT K H la xs ∧ Rules K H xs rs ∧ Good rs ∧
  ∀ H', (∀ b o, b ≠ a → H b = some o → H' b = some o) → TabAt P w K CT H' a (sortR rs) → Q .non H'
theorem ok_initT {CT : Addr} {dvs : List V} (Fd : FunD K "__init__" "Table.__init__" (defArgs sInit) (defBody sInit) (defScope sInit) dvs [] f fd) (T : Tx mg) (Y : Ty mg) (C : Tcl K CT) (DR : Df P w K mg base 5 "is_rule" ["value"] (spRule K)) (DK : Df P w K mg base 2 "rule_key" ["rule"] (spRK K)) :
    FnOk P w K mg base CX0 6 f fd ["self", "rules"] (spInitT P w K CT) := by
  refine Fd.ok0 scTab (fun vs H Q E h => ?_) (fun cdv A outer s H vs Q E hr h => ?_)
  · obtain ⟨a, dx, la, xs, rs, rfl, _⟩ := h
    rfl
  · obtain ⟨a, dx, la, xs, rs, rfl, ha, hl, hR, hG, q⟩ := h
    obtain ⟨tm, hm⟩ := Y.mr
    obtain ⟨fk, fdk, gk, kk, bk, FK⟩ := DK.ex
    have hu : (A.deeper (envOfC "Table.__init__" (defScope sInit) s.heap.objs.size f cdv)).units + 64 < cLine := hr.units
    have nd := scTab.nd
    refine ⟨_, pss_cons (ps_for PassesOwn.never rfl (pi_tup (pv 1)) (pg_name (i := 2) nd rfl (Or.inl rfl)) (pss_one (ps_if (pt_not (pt_val (pe_df DR hr (pa_cons (pv 2) pa_nil)))) pss_dead pss_nil)))
      (pss_cons (ps_setDcN (i := 3) (own := [("rule", 2)]) (g := gName 2) (Nat.lt_of_le_of_lt (Nat.add_le_add_left (by decide) _) hr.units) (by rfl) nd rfl rfl (sw_dict rfl rfl rfl rfl) (pi_tup (pv 1)) (blkOk_by (own := [("rule", 2)]) (N := ["self", "rules", "rule", "found"]) (sc := defScope sInit) (by decide +kernel))
          (fun _ _ _ _ _ => pg_name (i := 2) nd rfl (Or.inl rfl)) (fun _ _ _ _ _ => pe_slice (r := rSlW K) sl_tupK (pv 2) po_none (po_some pe_int)) (fun _ _ _ _ _ => pv 2))
      (pss_cons (ps_if (PW.pt (pw_or (pt_cmpR op_gt (pe_callB call_len_seq (by rfl) T.len PySem.boot_len (pa_cons (pv 1) pa_nil)) (pe_glob (v := .int 40) (by rfl) hm ⟨_, rfl⟩) (nomark _))
          (pw_or1 (pt_cmpR op_lt (pe_callB call_lenN (by rfl) T.len PySem.boot_len (pa_cons (pv 3) pa_nil)) (pe_callB call_len_seq (by rfl) T.len PySem.boot_len (pa_cons (pv 1) pa_nil)) (nomark _))))) pss_dead pss_nil)
      (pss_cons (ps_fld (pv 0) (pe_callTy call_tuple_of (by rfl) T.tuple (by decide +kernel) (pa_cons (pe_callBK (cr_sortKT FK (hr.mono (by decide)) bk) (by rfl) Y.sorted boot_sorted (pa_cons (pv 1) pa_nil) (pk_cons (pe_glob (v := .ref fk) (by rfl) gk rfl) pk_nil)) pa_nil)) rfl)
      (pss_cons (ps_fld (pv 0) (pv 3) rfl)
      (pss_one (ps_fld (pv 0) (pe_callBK (cr_maxDf rfl (Nat.lt_of_le_of_lt (Nat.add_le_add_left (by decide) _) hr.units)) (by rfl) T.max PyProof.Rows.boot_max (pa_cons (pe_lc (own := [("rule", 2)]) (g := gName 2) (tt := tYes) (by rfl) nd (pi_tup (pv 1)) (blkOk_by (own := [("rule", 2)]) (N := ["self", "rules", "rule", "found"]) (sc := defScope sInit) (by decide +kernel))
        (fun _ _ _ _ _ => pg_name (i := 2) nd rfl (Or.inl rfl)) (fun _ _ _ _ _ => pts_nil) (fun _ _ _ _ _ => pe_callB (r := rLenK K) call_lenK (by rfl) T.len PySem.boot_len (pa_cons (pe_ix (r := rIxT K) ix_tupK (pv 2) pe_int (fun _ _ => rfl)) pa_nil))) pa_nil) (pk_cons pe_int pk_nil)) rfl)))))), ?_⟩
    refine ⟨_, rfl, la, rfl, ⟨_, hl⟩, for_tup (K := K) (a := la) (xs := xs) (fun j σ G => G = H ∧ ∃ u, σ = [some (.ref a), some (.ref la), u, none]) ⟨rfl, none, rfl⟩ (fun j σ G _ h => by rw [h.1]; exact hl) ?_ ?_⟩
    · rintro j x σ G hx ⟨rfl, u, rfl⟩
      obtain ⟨r, h1, h2⟩ := hR.get hx
      have hk := hG.ok r (List.mem_of_getElem? h1)
      refine ⟨_, rfl, x, r.d, rfl, h2.dd, hk.fit, _, rfl, ?_⟩
      rw [hk.rule]
      exact iteF ⟨rfl, _, rfl⟩
    · rintro σ G ⟨rfl, u, rfl⟩
      refine ⟨_, rfl, la, rfl, ⟨_, hl⟩, fun D hD low => ?_⟩
      refine dc_tupN (K := K) (a := la) (xs := xs) (fun i G1 => Same G G1 ∧ ∃ rows, KD P w K G1 D rows ∧ rows.length = i ∧ rowsFit K G1 rows (rs.take i)) ⟨Same.new hD, [], ⟨upd_same, low, Nat.zero_le _, fun x hx => nomatch hx⟩, rfl, (fun k v e => nomatch e), fun r hr => by rw [List.take_zero] at hr; cases hr⟩
        (fun i G1 _ h => same_T h.1 hl) ?_ ?_
      · rintro i x G1 hx ⟨s1, rows, kd, hn, fit⟩
        obtain ⟨r, h1, h2⟩ := hR.get hx
        have hi : i < rs.length := (List.getElem?_eq_some_iff.mp h1).1
        obtain ⟨ra, rp, ry, rfl, t1, t2, t3⟩ := h2.same s1
        refine ⟨rfl, ?_⟩
        refine ⟨_, rfl, _, rfl, ra, _, rfl, t1, fun kp G2 s2 k1 => ⟨_, rfl, ?_⟩⟩
        rw [cutV_two] at k1
        have t4 := same_T s2 t2
        have kd2 := kd.same s2
        have r2 : RuleAt K G2 (.ref ra) r := ⟨ra, rp, ry, rfl, same_T s2 t1, t4, AnAt.mono t3 fun _ _ q => same_T s2 q⟩
        have fit2 : rowsFit K G2 rows (rs.take i) := fit.mono fun _ _ q => same_T s2 q
        have no : kGet rows r.key = none := by
          cases e : kGet rows r.key with
          | none => rfl
          | some v =>
            obtain ⟨r', hr', ek, _⟩ := fit.1 _ _ e
            obtain ⟨j, hj⟩ := List.getElem?_of_mem hr'
            have hji : j < i := by
              have := (List.getElem?_eq_some_iff.mp hj).1
              rw [List.length_take] at this
              omega
            rw [List.getElem?_take, if_pos hji] at hj
            have e1 : (rs.map Rl.key)[j]? = some r.key := by rw [List.getElem?_map, hj]; exact congrArg some ek
            have e2 : (rs.map Rl.key)[i]? = some r.key := by rw [List.getElem?_map, h1]; rfl
            have := (List.getElem?_inj (by rw [List.length_map]; omega) hG.one).mp (e1.trans e2.symm)
            omega
        have put : kPut rows r.key kp (.ref ra) = rows ++ [(r.key, kp, .ref ra)] := by
          unfold kPut
          rw [no]
          rfl
        have hT : ∀ b ys, SqT K G2 b ys → SqT K (upd G2 D (kdO P w D (kPut rows r.key kp (.ref ra)))) b ys := fun b ys z => sqT_kd kd2.at_ z
        refine ⟨kp, r.key, rows, rfl, nis_key k1 t4, key_deep _ _, kd2, fun b o e => ?_, kPut rows r.key kp (.ref ra), ⟨upd_same, low, ?_, fun y hy => ?_⟩, by rw [put]; simp [hn], fun k v e => ?_, fun r' hr' => ?_⟩
        · rw [upd_ne (ne_of_none e hD)]
          exact s2 _ _ (s1 b o e)
        · have h40 := hG.few
          rw [put, List.length_append, hn]
          simp
          omega
        · rw [put] at hy
          rcases List.mem_append.mp hy with hy | hy
          · exact ⟨nis_mono hT (kd2.key y hy).1, (kd2.key y hy).2⟩
          · rw [List.mem_singleton.mp hy]
            exact ⟨nis_mono hT (nis_key k1 t4), key_deep _ _⟩
        · rw [put, kGet_snoc] at e
          have tk : rs.take (i + 1) = rs.take i ++ [r] := by rw [List.take_add_one, h1]; rfl
          cases e3 : kGet rows k with
          | some u =>
            rw [e3] at e
            cases e
            obtain ⟨r', m1, m2, m3⟩ := fit2.1 k v e3
            exact ⟨r', by rw [tk]; exact List.mem_append_left _ m1, m2, m3.mono hT⟩
          | none =>
            rw [e3] at e
            by_cases ek : r.key = k
            · rw [if_pos ek] at e
              cases e
              exact ⟨r, by rw [tk]; simp, ek, r2.mono hT⟩
            · rw [if_neg ek] at e
              cases e
        · rw [put, kGet_snoc]
          cases e3 : kGet rows r'.key with
          | some u => rfl
          | none =>
            rw [List.take_add_one, h1] at hr'
            rcases List.mem_append.mp hr' with m | m
            · have := fit.2 r' m
              rw [e3] at this
              cases this
            · have e4 : r' = r := by simpa using m
              rw [e4, if_pos rfl]
              rfl
      · rintro G1 ⟨s1, rows, kd, hn, fit⟩
        have ln := hR.length
        have few := hG.few
        rw [List.take_of_length_le (by omega)] at fit
        refine ⟨_, rfl, la, xs, rfl, .inr (same_T s1 hl), _, _, rfl, rfl, _, rfl, ?_⟩
        rw [decide_eq_false (by omega)]
        refine iteF ⟨_, rfl, D, rows, rfl, kd, _, rfl, la, xs, rfl, .inr (same_T s1 hl), _, _, rfl, rfl, _, rfl, ?_⟩
        rw [decide_eq_false (by omega)]
        have zz := zip_fst ln
        have hR1 := hR.same s1
        refine iteF ⟨_, rfl, la, (xs.zip rs).map zOf, rfl, rfl, ?_, ?_, ?_, ?_, ?_, fun H2 q1 s2 hq nq => ⟨q1, _, rfl, .inl ⟨.of upd_same, fun t ht => ⟨_, rfl, a, CT, dx, [], rfl, ?_, C.cls, C.no1, (by decide), ?_⟩⟩⟩⟩
        · rw [List.map_map]
          show SqT K G1 la ((xs.zip rs).map (·.1))
          rw [zz.1]
          exact same_T s1 hl
        · rw [List.length_map, List.length_zip]
          omega
        · intro d hd d' hd'
          simp only [List.map_map, List.mem_map] at hd hd'
          obtain ⟨p1, _, rfl⟩ := hd
          obtain ⟨p2, _, rfl⟩ := hd'
          exact kd_alike _ _
        · refine .inl fun d hd => ?_
          simp only [List.map_map, List.mem_map] at hd
          obtain ⟨p1, _, rfl⟩ := hd
          exact ⟨_, _, rfl⟩
        · intro z hz
          obtain ⟨p1, hp, rfl⟩ := List.mem_map.mp hz
          exact ⟨kd_bare _, kd_deep _, fun H1 sH => ⟨p1.1, p1.2, rfl, (rules_zip hR1 p1 hp).same sH, fun y H' sy dy => ⟨sy, dy⟩⟩⟩
        · exact (Same.new ht) _ _ ((Same.new hq) _ _ (s2 _ _ (s1 _ _ ha)))
        have s3 := s2.trans ((Same.new (o := .lst ((((xs.zip rs).map zOf).mergeSort (PySem.W.dataLe false Prod.snd)).map Prod.fst)) hq).trans (Same.new (o := .tup ((((xs.zip rs).map zOf).mergeSort (PySem.W.dataLe false Prod.snd)).map Prod.fst)) ht))
        have ht3 := upd_same (H := upd H2 q1 (.lst ((((xs.zip rs).map zOf).mergeSort (PySem.W.dataLe false Prod.snd)).map Prod.fst))) (a := t) (o := .tup ((((xs.zip rs).map zOf).mergeSort (PySem.W.dataLe false Prod.snd)).map Prod.fst))
        have hR3 := sorted_rules (hR1.same s3)
        generalize (((xs.zip rs).map zOf).mergeSort (PySem.W.dataLe false Prod.snd)).map Prod.fst = ys at s3 ht3 hR3 ⊢
        generalize upd (upd H2 q1 (.lst ys)) t (.tup ys) = G3 at s3 ht3 hR3 ⊢
        have ha3 : G3 a = some (.ins CT dx []) := s3 _ _ (s1 _ _ ha)
        refine ⟨_, rfl, _, rfl, a, CT, dx, _, rfl, upd_same, C.cls, C.no2, (show 1 < 1000 by decide), ?_⟩
        have hT : ∀ b zs, SqT K G3 b zs → SqT K (upd (upd G3 a (.ins CT dx (putF "_rules" (.ref t) []))) a (.ins CT dx (putF "_found" (.ref D) (putF "_rules" (.ref t) [])))) b zs := fun b zs z => sqT_ins (upd_same) (sqT_ins ha3 z)
        have hD3 : G3 D = some (kdO P w D rows) := s3 _ _ kd.at_
        have nDa : D ≠ a := ne_of hD3 ha3 fun e => nomatch e
        have off : ∀ b o, b ≠ a → G3 b = some o → (upd (upd G3 a (.ins CT dx (putF "_rules" (.ref t) []))) a (.ins CT dx (putF "_found" (.ref D) (putF "_rules" (.ref t) [])))) b = some o := fun b o nb e => by
          rw [upd_ne nb, upd_ne nb]
          exact e
        have at4 := upd_same (H := upd G3 a (.ins CT dx (putF "_rules" (.ref t) []))) (a := a) (o := .ins CT dx (putF "_found" (.ref D) (putF "_rules" (.ref t) [])))
        have hl4 := hT _ _ (same_T s3 (same_T s1 hl))
        have hR4 := (hR1.same s3).mono hT
        generalize upd (upd G3 a (.ins CT dx (putF "_rules" (.ref t) []))) a (.ins CT dx (putF "_found" (.ref D) (putF "_rules" (.ref t) []))) = G4 at hT off at4 hl4 hR4 ⊢
        refine ⟨_, rfl, la, rfl, ⟨_, hl4⟩, fun L hL => ?_⟩
        refine lc_tup (K := K) (a := la) (xs := xs) (fun i G5 => Same G4 G5 ∧ G5 L = some (.lst (((rs.take i).map fun r => (r.pl.length : Int)).map V.int))) ⟨Same.new hL, upd_same⟩ (fun i G5 _ h => same_T h.1 hl4) ?_ ?_
        · rintro i x G5 hx ⟨s5, h5⟩
          obtain ⟨r, h1, h2⟩ := hR4.get hx
          have hi : i < rs.length := (List.getElem?_eq_some_iff.mp h1).1
          obtain ⟨ra, rp, ry, rfl, t1, t2, t3⟩ := h2.same s5
          refine ⟨rfl, ?_⟩
          show tCB (rLenK K) (tCons (tOp (rIxT K) (tVar 2) (tC (V.int 1))) tNil) _ _ _
          refine ⟨_, rfl, ra, _, _, _, rfl, rfl, t1, at1, rp, _, rfl, .inr t2, _, h5, ?_, ?_⟩
          · rw [List.length_map, List.length_map, List.length_take]
            exact Nat.lt_of_le_of_lt (show min i rs.length ≤ 40 by omega) (by decide)
          · have e : ((rs.take (i + 1)).map fun r => (r.pl.length : Int)).map V.int = ((rs.take i).map fun r => (r.pl.length : Int)).map V.int ++ [V.int ((r.pl.map V.str).length : Int)] := by
              rw [List.take_add_one, h1, List.length_map]
              simp
            refine ⟨fun b o eb => ?_, ?_⟩
            · rw [upd_ne (ne_of_none eb hL)]
              exact s5 _ _ eb
            · rw [upd_same, e]
        · rintro G5 ⟨s5, h5⟩
          rw [List.take_of_length_le (by omega)] at h5
          refine ⟨L, rs.map fun r => (r.pl.length : Int), 0, rfl, rfl, .of h5, fun m m0 m1 m2 => ?_⟩
          have hlong : Longest rs m := by
            refine ⟨?_, ?_, fun r hr => m2 _ (List.mem_map.mpr ⟨r, hr, rfl⟩)⟩
            · cases rs with
              | nil => rw [m0 rfl]; decide
              | cons r rs => exact Int.le_trans (Int.ofNat_nonneg _) (m2 _ (List.mem_map.mpr ⟨r, List.mem_cons_self, rfl⟩))
            · cases rs with
              | nil => rw [m0 rfl]; decide
              | cons r rs =>
                obtain ⟨r2, hr2, e2⟩ := List.mem_map.mp (m1 (by simp))
                rw [← e2]
                have := (hG.ok r2 hr2).len
                omega
          refine ⟨_, rfl, a, CT, dx, _, rfl, s5 _ _ at4, C.cls, C.no3, (show 2 < 1000 by decide), ?_⟩
          have hT5 : ∀ b zs, SqT K G3 b zs → SqT K (upd G5 a (.ins CT dx (putF "_longest" (.int m) (putF "_found" (.ref D) (putF "_rules" (.ref t) []))))) b zs := fun b zs z => sqT_ins (s5 _ _ at4) (same_T s5 (hT _ _ z))
          refine q _ (fun b o nb e => ?_) ⟨dx, t, D, ys, rows, m, ?_, hT5 _ _ (.of ht3), hR3.mono hT5, ⟨fun r hr => hG.ok r ((sortR_perm rs).mem_iff.mp hr), by rw [(sortR_perm rs).length_eq]; exact hG.few, sortR_nodup hG.one⟩, ⟨?_, low, kd.few, fun x hx => ⟨nis_mono (fun b zs z => hT5 b zs (same_T s3 z)) (kd.key x hx).1, (kd.key x hx).2⟩⟩, ?_, ⟨hlong.1, hlong.2.1, fun r hr => hlong.2.2 r ((sortR_perm rs).mem_iff.mp hr)⟩⟩
          · rw [upd_ne nb]
            exact s5 _ _ (off _ _ nb (s3 _ _ (s1 _ _ e)))
          · rw [upd_same]
            rfl
          · rw [upd_ne nDa]
            exact s5 _ _ (off _ _ nDa hD3)
          · have f3 := fit.mono fun b zs z => hT5 b zs (same_T s3 z)
            exact ⟨fun k v e => let ⟨r, m1, m2, m3⟩ := f3.1 k v e; ⟨r, (sortR_perm rs).mem_iff.mpr m1, m2, m3⟩, fun r hr => f3.2 r ((sortR_perm rs).mem_iff.mp hr)⟩
theorem FnOk.both {CX : CXT} {k : Nat} {ps : List Str} {sp1 sp2 : Sp} (F1 : FnOk P w K mg base CX k f fd ps sp1) (F2 : FnOk P w K mg base CX k f fd ps sp2) : FnOk P w K mg base CX k f fd ps (fun vs H Q E => sp1 vs H Q E ∨ sp2 vs H Q E) :=
  ⟨fun vs H Q E h => h.elim (F1.len vs H Q E) (F2.len vs H Q E), fun A outer s H args us vs Q E hr e0 hb hv h => h.elim (F1.run A outer s H args us vs Q E hr e0 hb hv) (F2.run A outer s H args us vs Q E hr e0 hb hv)⟩
end
/-- Table(): rules is the empty tuple of the def -/
structure Tmk0 (P : Program) (w : World) (K : PySem.W.Frag) (mg : Str → Option Value) (base : Heap) (CT : Addr) : Prop where
  gT : mg "Table" = some (.ref CT)
  ex : ∃ fI fdI e ds, Mk K CT fI ∧ Vals [.ref e] ds ∧ Binds K fdI ["self", "rules"] ds ∧ FnOk P w K mg base CX0 6 fI fdI ["self", "rules"] (spInitE P w K CT) ∧ ∀ H, SqT K H e []
def tTable0 (P : Program) (w : World) (K : PySem.W.Frag) (CT : Addr) : TE := fun _ H Q => ∀ a H', H a = none → Same H H' → TabAt P w K CT H' a [] → Q (.ref a) H'
theorem pe_table0 {X : Cx} {CT : Addr} {p pos : Pos} {j : Nat} (B : Tmk0 X.prog X.w X.K X.mg X.base CT) (hr : Room j X.A) (hj : 7 ≤ j := by decide) (hg : Gl X "Table" := by rfl) : PE X (.Call (.Name "Table" p) [] [] pos) (tTable0 X.prog X.w X.K CT) :=
  let ⟨_, _, e, _, M, hd, hb, F, he⟩ := B.ex
  PE.conv (pe_make0 (E := E0) (dvs := [.ref e]) M F (hr.mono hj) hg B.gT hb hd (fun _ _ _ _ _ _ _ z => False.elim z)) fun σ H Q q x dx hx hd ne => by
    have s1 : Same H (upd (upd H dx (.own x)) x (.ins CT dx [])) := fun b o e => by
      rw [upd_ne (ne_of_none e hx), upd_ne (ne_of_none e hd)]
      exact e
    exact ⟨x, dx, e, rfl, upd_same, he _, fun H' fr tb => ⟨rfl, q x H' hx (fun b o e => fr b o (ne_of_none e hx) (s1 _ _ e)) tb⟩⟩
/-- rules in a list or in a tuple -/
def spInitB (P : Program) (w : World) (K : PySem.W.Frag) (CT : Addr) : Sp := fun vs H Q E => spInit P w K CT vs H Q E ∨ spInitT P w K CT vs H Q E
structure TmkB (P : Program) (w : World) (K : PySem.W.Frag) (mg : Str → Option Value) (base : Heap) (CT : Addr) : Prop where
  gT : mg "Table" = some (.ref CT)
  ex : ∃ fI fdI, Mk K CT fI ∧ Binds K fdI ["self", "rules"] [] ∧ FnOk P w K mg base CX0 6 fI fdI ["self", "rules"] (spInitB P w K CT)
theorem make_spB {P : Program} {w : World} {K : PySem.W.Frag} {CT la : Addr} {H1 : Hp} {xs : List V} {rs : List Rl} {Q : Addr → Hp → Prop} (hl : SqL K H1 la xs ∨ SqT K H1 la xs) (hR : Rules K H1 xs rs) (hG : Good rs) (q : ∀ a H', H1 a = none → Same H1 H' → TabAt P w K CT H' a (sortR rs) → Q a H') :
    ∀ x dx, H1 x = none → H1 dx = none → dx ≠ x → spInitB P w K CT (.ref x :: ([.ref la] ++ [])) (upd (upd H1 dx (.own x)) x (.ins CT dx [])) (fun v H2 => v = .non ∧ Q x H2) E0 := fun x dx hx hd ne => by
  have s1 : Same H1 (upd (upd H1 dx (.own x)) x (.ins CT dx [])) := fun b o e => by
    rw [upd_ne (ne_of_none e hx), upd_ne (ne_of_none e hd)]
    exact e
  have fin : ∀ H', (∀ b o, b ≠ x → (upd (upd H1 dx (.own x)) x (.ins CT dx [])) b = some o → H' b = some o) → TabAt P w K CT H' x (sortR rs) → (V.non : V) = .non ∧ Q x H' := fun H' fr tb => ⟨rfl, q x H' hx (fun b o e => fr b o (ne_of_none e hx) (s1 _ _ e)) tb⟩
  rcases hl with hl | hl
  · exact .inl ⟨x, dx, la, xs, rs, rfl, upd_same, s1.seq hl, hR.same s1, hG, fin⟩
  · exact .inr ⟨x, dx, la, xs, rs, rfl, upd_same, same_T s1 hl, hR.same s1, hG, fin⟩
theorem pe_tableB {X : Cx} {CT : Addr} {e : Expr} {ta : TA} {p pos : Pos} {j : Nat} (B : TmkB X.prog X.w X.K X.mg X.base CT) (hr : Room j X.A) (ha : PA X [e] ta) (hj : 7 ≤ j := by decide) (hg : Gl X "Table" := by rfl) (he : starEach [e] X.env = (false, eval e X.env) :: starEach [] X.env := by rfl) :
    PE X (.Call (.Name "Table" p) [e] [] pos) (tMake CT (spInitB X.prog X.w X.K CT) [] E0 ta) :=
  let ⟨_, _, M, hb, F⟩ := B.ex
  pe_make (E := E0) (dvs := []) M F (hr.mono hj) hg B.gT hb .nil (fun _ _ _ _ _ _ _ z => False.elim z) ha (by decide) he rfl
end K28
/-! != of two lists, by the own == of what stands in them. -/
namespace Ld
open PySem L2 PyProof.Rows
/-- one turn of the walk through both lists is over: the next one -/
theorem ne_again {P : Program} {w : World} {A : Around} {R : Result → Shared → Prop} {args : Args} {s : Shared} (h : wpAny (model P w) A.in1 (Builtin.«list.__eq__.loop» args) (fun fin s' => match fin with | .done f => R (.ok f) s' | .again c' => c'.quiet = true ∧ codeAny (model P w) A c' R s') (fun e s' => R (.error e) s') s) :
    (Code.builtin "list.__eq__.loop" args).quiet = true ∧ codeAny (model P w) A (.builtin "list.__eq__.loop" args) R s := by
  have plain := MeetsSeq3.plain_eq_loop
  refine ⟨plainId_quiet plain args, codeAny_builtin MeetsSeq3.entry_eq_loop ?_⟩
  rw [show A.under (.builtin "list.__eq__.loop" args) = A.in1 from Around.under_plainId plain args]
  exact h
/-- turns of the walk through both lists, each of which says that the two are alike -/
theorem ne_turns {P : Program} {w : World} {A : Around} {R : Result → Shared → Prop} {l b : Addr} {us vs : Array Value} {St : Shared → Prop} (same : us.size = vs.size)
    (lu : ∀ s, St s → s.heap.IsList l us) (lv : ∀ s, St s → s.heap.IsList b vs)
    (alike : ∀ j (ju : j < us.size) (jv : j < vs.size) s, St s → wpAny (model P w) A.in1 (eqBool us[j] vs[j]) (fun c s' => c = true ∧ St s') (fun e s' => R (.error e) s') s)
    (fin : ∀ s, St s → R (.ok (.ret (.bool false))) s) (left : Nat) :
    ∀ (i : Nat) (s : Shared), us.size - i = left → St s → wpAny (model P w) A.in1 (Builtin.«list.__eq__.loop» ⟨[.ref l, .ref b, rawInt i, rawInt 3], []⟩) (fun fin s' => match fin with | .done f => R (.ok f) s' | .again c' => c'.quiet = true ∧ codeAny (model P w) A c' R s') (fun e s' => R (.error e) s') s := by
  have toN : ∀ i : Nat, ((i : Nat) : Int).toNat = i := fun i => Int.toNat_natCast i
  induction left with
  | zero =>
    intro i s over st
    have f := fin s st
    obtain ⟨⟨_, _, _, _⟩, gu, rfl, _, rfl⟩ := lu s st
    obtain ⟨⟨_, _, _, _⟩, gv, rfl, _, rfl⟩ := lv s st
    cases s
    wp_walk using AutoSeq1.wpAny_loadPart' gu, AutoSeq1.wpAny_loadPart' gv
    rw [toN, Array.getElem?_eq_none (show us.size ≤ i by omega), Array.getElem?_eq_none (show vs.size ≤ i by omega)]
    wp_walk using AutoSeq1.wpAny_loadPart' gu, AutoSeq1.wpAny_loadPart' gv
    have e : (us.size != vs.size) = false := by simp [same]
    rw [← e] at f
    exact f
  | succ left more =>
    intro i s over st
    have iu : i < us.size := by omega
    have iv : i < vs.size := by omega
    have turn := alike i iu iv s st
    obtain ⟨⟨_, _, _, _⟩, gu, rfl, _, rfl⟩ := lu s st
    obtain ⟨⟨_, _, _, _⟩, gv, rfl, _, rfl⟩ := lv s st
    cases s
    wp_walk using AutoSeq1.wpAny_loadPart' gu, AutoSeq1.wpAny_loadPart' gv
    rw [toN, Array.getElem?_eq_getElem iu, Array.getElem?_eq_getElem iv]
    refine wpAny_bind (wpAny_mono turn (fun c s' z => ?_) fun _ _ z => z)
    obtain ⟨rfl, st'⟩ := z
    wp_walk
    exact ne_again (more (i + 1) s' (by omega) st')
section
variable {X : Cx} {k : Nat} {f C : Addr} {fd : FuncData} {ps : List Str} {sp : Sp}
theorem refs_vals : ∀ {as : List Addr} {us : List Value}, Vals (as.map V.ref) us → us = as.map Value.ref
  | [], _, h => by cases h; rfl
  | a :: as, _, h => by
    cases h with
    | cons r t =>
      cases r
      rw [refs_vals t]
      rfl
theorem list_refs {pins : List (Addr × Obj)} {σ : L2.St} {H : Hp} {s : Shared} {l : Addr} {as : List Addr} (I : Inv X pins σ H s) (h : H l = some (.lst (as.map V.ref))) : s.heap.IsList l (as.map Value.ref).toArray := by
  obtain ⟨z, its, n, r, hl, e⟩ := I.lstM h
  rw [refs_vals r] at e
  exact ⟨_, e, rfl, n, rfl⟩
/-- two things that their class's own == says are alike -/
def AlikeO (C : Addr) (sp : Sp) (H : Hp) (a c : Addr) : Prop := (∃ dx fs dy gs, H a = some (.ins C dx fs) ∧ H c = some (.ins C dy gs)) ∧ sp [.ref a, .ref c] H (fun v H2 => v = .bl true ∧ H2 = H) E0
theorem eqB_own (hs : PySem.W.findIn X.K (.ref C) "__eq__" = some (some (.ref f))) (hf : PySem.W.isFn X.K (.ref f) = true) (F : FnOk X.prog X.w X.K X.mg X.base CX0 k f fd ps sp) (hr : Room (k + 1) X.A) (hb : Binds X.K fd ps []) {pins : List (Addr × Obj)} {σ : L2.St} {H : Hp} {s : Shared} {a c : Addr} {E : Value → Shared → Prop}
    (I : Inv X pins σ H s) (al : AlikeO C sp H a c) : wpAny (model X.prog X.w) X.A.in1 (eqBool (.ref a) (.ref c)) (fun t s' => t = true ∧ Inv X pins σ H s') E s := by
  obtain ⟨⟨dx, fs, dy, gs, ha, hc⟩, q⟩ := al
  unfold eqBool
  refine wpAny_holding ?_
  refine wpAny_ite_split (fun _ => wpAny_bind (wpAny_rule (wpAny_pure ⟨rfl, I⟩))) (fun _ => ?_)
  obtain ⟨mA0, J, _⟩ := ins_get I.hok ha
  obtain ⟨od, J, _⟩ := J.look
  obtain ⟨mB, J2, _⟩ := ins_get I.hok hc
  obtain ⟨od2, J2, _⟩ := J2.look
  obtain ⟨m, hF⟩ := I.fr
  refine wpAny_bind (PySem.W.cmp_K (op := .Eq) (tb := .ref C) hr.in1.units0 hF I.ok.mod.kin J J2.type (by simp [PySem.W.notFirst]) hs hf (wpAny_mono (run_own (vs := [.ref a, .ref c]) F hb hr.in1 rfl I (.cons rfl (.cons rfl .nil)) q) (fun v s' z => ?_) fun _ _ z => z))
  obtain ⟨y, H2, I2, ry, e, e2⟩ := z
  subst e e2
  cases ry
  exact wpAny_truthy_bool ⟨rfl, I2⟩
def rNeLO (C : Addr) (sp : Sp) : R2 := fun x y H Q => ∃ (l b : Addr) (as cs : List Addr), x = .ref l ∧ y = .ref b ∧ H l = some (.lst (as.map V.ref)) ∧ H b = some (.lst (cs.map V.ref)) ∧ as.length = cs.length ∧ (∀ (j : Nat) a c, as[j]? = some a → cs[j]? = some c → AlikeO C sp H a c) ∧ Q (.bl false) H
theorem op_neLO (hs : PySem.W.findIn X.K (.ref C) "__eq__" = some (some (.ref f))) (hf : PySem.W.isFn X.K (.ref f) = true) (F : FnOk X.prog X.w X.K X.mg X.base CX0 k f fd ps sp) (hr : Room (k + 1) X.A) (hb : Binds X.K fd ps []) : OpR X (compareOp .NotEq) (rNeLO C sp) := by
  intro pins s σ H x y v u Q I rx ry ⟨l, b, as, cs, e1, e2, hl, hc, hlen, al, q⟩
  subst e1 e2
  cases rx
  cases ry
  show wpAny (model X.prog X.w) X.A (richCompare .NotEq (.ref l) (.ref b)) (EP X pins σ Q) X.xe s
  obtain ⟨⟨_, _, _, _⟩, ho, rfl, _, rfl⟩ := list_refs I hl
  obtain ⟨⟨_, _, _, _⟩, ho2, rfl, _, rfl⟩ := list_refs I hc
  have hsz : ((as.map Value.ref).toArray).size = ((cs.map Value.ref).toArray).size := by simp [hlen]
  refine wpAny_richCompare_same_room (T := "list") (op := .NotEq) ⟨_, ho, rfl⟩ ⟨_, ho2, rfl⟩ PySem.F.slot_list_ne (wpAny_call (codeAny_call_builtin PySem.F.slot_list_ne.plain PySem.F.entry_list_ne (PySem.F.slot_list_ne.check _ _ _ _ _ _ _ _ ⟨_, ho, rfl⟩ (PySem.F.args_list_ne_2 _ _) ?_))) hr.units0
  have turns := ne_turns (P := X.prog) (w := X.w) (A := X.A) (R := wants (fun v s' => v ≠ .notImplemented ∧ EP X pins σ Q v s') X.xe) (l := l) (b := b) (St := Inv X pins σ H) hsz (fun s I => list_refs I hl) (fun s I => list_refs I hc)
    (fun j h1 h2 s I => by
      rw [List.size_toArray, List.length_map] at h1 h2
      simp only [List.getElem_toArray, List.getElem_map]
      exact eqB_own hs hf F hr hb I (al j _ _ (List.getElem?_eq_getElem h1) (List.getElem?_eq_getElem h2)))
    (fun s I => ⟨(fun z => nomatch z), .bl false, H, I, rfl, q⟩) _ 0 s rfl I
  cases s
  have both := AutoSeq1.sub_list_list
  have long : (((as.map Value.ref).toArray).size != ((cs.map Value.ref).toArray).size) ≠ true := by simp [hsz]
  wp_walk using AutoSeq1.wpAny_loadPart' ho, AutoSeq1.wpAny_loadPart' ho2
  exact ne_again turns
end
end Ld
namespace K28
open PySem PySem.Spec L2 Ld PyProof.Rows
theorem take_drop_last {ws : List Str} {k : Nat} (h : k < ws.length) : ws.dropLast.take k = ws.take k := by
  rw [List.dropLast_eq_take, List.take_take, Nat.min_eq_left (by omega)]
theorem mem_ruleQ {r : Rl} {x : List Str} (ne : x ≠ []) : x ∈ ruleQ r ↔ x ∈ begsOf r.pl.dropLast ∨ (r.ex = true ∧ x = r.pl) := by
  have b : x ∈ begsOf r.pl.dropLast ↔ ∃ k, k < r.pl.length ∧ r.pl.take k = x := by
    unfold begsOf
    simp only [List.mem_map, List.mem_range, List.length_dropLast]
    constructor
    · rintro ⟨k, h1, h2⟩
      by_cases z : k < r.pl.length
      · exact ⟨k, z, by rw [← take_drop_last z]; exact h2⟩
      · have e : r.pl.length = 0 := by omega
        have : r.pl = [] := List.eq_nil_of_length_eq_zero e
        rw [this] at h2
        simp at h2
        exact absurd h2 ne
    · rintro ⟨k, h1, h2⟩
      exact ⟨k, by omega, by rw [take_drop_last h1]; exact h2⟩
  rw [b]
  unfold ruleQ
  cases r.ex with
  | true =>
    simp only [if_true, List.mem_append, List.mem_map, List.mem_range, List.mem_singleton, true_and]
    constructor
    · rintro (⟨k, h1, h2⟩ | h)
      · by_cases z : k < r.pl.length
        · exact .inl ⟨k, z, h2⟩
        · rw [List.take_of_length_le (by omega)] at h2
          exact .inr h2.symm
      · exact .inr h
    · rintro (⟨k, h1, h2⟩ | h)
      · exact .inl ⟨k, by omega, h2⟩
      · exact .inr h
  | false =>
    simp
theorem TabAt.off {P : Program} {w : World} {K : PySem.W.Frag} {CT a D : Addr} {H H' : Hp} {rs : List Rl} {ks : List V} (z : TabAt P w K CT H a rs) (hD : H D = some (.lst ks)) (fr : ∀ c o, c ≠ D → H c = some o → H' c = some o) : TabAt P w K CT H' a rs := by
  obtain ⟨dx, t, d, xs, rows, mx, h1, h2, h3, h4, h5, h6, h7⟩ := z
  have hT : ∀ b ys, SqT K H b ys → SqT K H' b ys := fun b ys q => sqT_off hD fr q
  exact ⟨dx, t, d, xs, rows, mx, fr _ _ (ne_of h1 hD fun e => nomatch e) h1, hT _ _ h2, Rules.at h3 hD fr, h4, ⟨fr _ _ (ne_of h5.at_ hD fun e => nomatch e) h5.at_, h5.low, h5.few, fun x hx => ⟨nis_mono hT (h5.key x hx).1, (h5.key x hx).2⟩⟩, h6.mono hT, h7⟩
theorem places_dp {K : PySem.W.Frag} {H : Hp} : ∀ {xs : List V} {l : List (List Str)}, Places K H xs l → DpAll K H xs (l.map wt)
  | _, _, .nil => .nil
  | _, _, .cons ⟨_, e, z⟩ t => by
    subst e
    exact .cons (dp_wt z) (places_dp t)
section
variable {P : Program} {w : World} {K : PySem.W.Frag} {CT : Addr}
theorem LotAt.same {H H' : Hp} {v : V} {rs : List Rl} (z : LotAt K H v rs) (s : Same H H') : LotAt K H' v rs :=
  let ⟨r, xs, e, h1, h2⟩ := z; ⟨r, xs, e, s _ _ h1, h2.same s⟩
theorem Tabs.off {H H' : Hp} {xs : List V} {rss : List (List Rl)} {D : Addr} {ks : List V} (z : Tabs P w K CT H xs rss) (hD : H D = some (.lst ks)) (fr : ∀ c o, c ≠ D → H c = some o → H' c = some o) : Tabs P w K CT H' xs rss := Paired.mono (fun _ _ ⟨t, e, q⟩ => ⟨t, e, TabAt.off q hD fr⟩) z
end
theorem nodict_all : ∀ {l : List (List Str)}, PyData.hasDictAll (l.map wt) = false
  | [] => rfl
  | ws :: l => by
    have h : ∀ us : List Str, PyData.hasDictAll (us.map PyData.str) = false := fun us => by
      induction us with
      | nil => rfl
      | cons u us ih => simp [PyData.hasDictAll, PyData.hasDict, ih]
    simp only [List.map_cons, PyData.hasDictAll, wt, PyData.hasDict, h, Bool.false_or]
    exact nodict_all
theorem nodict_strs : ∀ (us : List Str), PyData.hasDictAll (us.map PyData.str) = false
  | [] => rfl
  | u :: us => by simp [PyData.hasDictAll, PyData.hasDict, nodict_strs us]
theorem joints_cor (rss : List (List Rl)) (x : List Str) : x ∈ jointsOf (rss.map sortR) ↔ x ∈ corOf rss := by
  unfold jointsOf corOf
  rw [mem_folds, mem_adds]
  have fl : ∀ r, r ∈ (rss.map sortR).flatten ↔ r ∈ rss.flatten := fun r => by
    simp only [List.mem_flatten, List.mem_map]
    constructor
    · rintro ⟨_, ⟨rs, h1, rfl⟩, h2⟩
      exact ⟨rs, h1, (sortR_perm rs).mem_iff.mp h2⟩
    · rintro ⟨rs, h1, h2⟩
      exact ⟨_, ⟨rs, h1, rfl⟩, (sortR_perm rs).mem_iff.mpr h2⟩
  by_cases ne : x = []
  · subst ne
    simp
  · simp only [List.mem_cons, List.not_mem_nil, or_false, ne, false_or, List.mem_flatMap]
    constructor
    · rintro ⟨r, h1, h2⟩
      exact ⟨r, (fl r).mp h1, (mem_ruleQ ne).mpr h2⟩
    · rintro ⟨r, h1, h2⟩
      exact ⟨r, (fl r).mpr h1, (mem_ruleQ ne).mp h2⟩
theorem map_last {f : List Str → List Str} {part : List (List Str)} (ne : part ≠ []) : (part.map f).getLastD [] = f (part.getLastD []) := by
  rw [List.getLastD_eq_getLast?, List.getLastD_eq_getLast?, List.getLast?_map]
  cases h : part.getLast? with
  | none => exact absurd (List.getLast?_eq_none_iff.mp h) ne
  | some z => rfl
theorem map_head {f : List Str → List Str} {part : List (List Str)} (ne : part ≠ []) : (part.map f).headD [] = f (part.headD []) := by
  cases part with
  | nil => exact absurd rfl ne
  | cons a p => rfl
theorem judges {part js js' : List (List Str)} {n : Nat} (ne : part ≠ []) (h : n ≤ (part.headD []).length) (same : ∀ x, x ∈ js ↔ x ∈ js') : lawR (restOf part n) part n js' = repB part n js := by
  unfold repB repR lawR
  rw [map_last ne, map_head ne]
  have e1 : ((part.map (frontOf (restOf part n))).dropLast.all fun z => decide (z ∉ js')) = ((part.map (frontOf (restOf part n))).dropLast.all fun z => decide (z ∉ js)) := by
    congr 1
    funext z
    exact decide_eq_decide.mpr (not_congr (same z).symm)
  have e2 : frontOf (restOf part n) (part.headD []) = (part.headD []).take n := by
    unfold frontOf restOf
    rw [List.length_drop, show (part.headD []).length - ((part.headD []).length - n) = n by omega]
  rw [e1, e2]
  unfold begB
  rw [List.length_take, Nat.min_eq_left h]
/-- the law's judge says what is_round says -/
theorem round_law {walk js js' : List (List Str)} {i j n : Nat} (hij : i < j) (hj : j < walk.length) (same : ∀ x, x ∈ js ↔ x ∈ js') :
    lawB (partOf walk i j) n js' = roundD walk js (.tuple [.int (i : Int), .int (j : Int), .int (n : Int)]) := by
  obtain ⟨wi, ewi⟩ : ∃ z, walk[i]? = some z := ⟨_, List.getElem?_eq_getElem (by omega)⟩
  have hd : (partOf walk i j).headD [] = wi := headD_of (by rw [part_at walk (by omega)]; exact ewi)
  have lp := part_len walk (i := i) hj
  have ne : partOf walk i j ≠ [] := fun e => by
    rw [e, List.length_nil] at lp
    omega
  have egd : walk.getD i [] = wi := by
    rw [List.getD_eq_getElem?_getD, ewi]
    rfl
  have n1 : numD ((walk.length : Int) - 1) (.int (j : Int)) = true := by
    simp only [numD, Bool.and_eq_true, decide_eq_true_eq]
    omega
  have n2 : numD ((j : Int) - 1) (.int (i : Int)) = true := by
    simp only [numD, Bool.and_eq_true, decide_eq_true_eq]
    omega
  show _ = (numD ((walk.length : Int) - 1) (.int (j : Int)) && numD ((j : Int) - 1) (.int (i : Int)) && numD (((walk.getD i []).length : Nat) : Int) (.int (n : Int)) && coreB walk i j n js)
  rw [n1, n2, egd]
  unfold lawB
  rw [hd]
  by_cases h : n ≤ wi.length
  · have n3 : numD ((wi.length : Nat) : Int) (.int (n : Int)) = true := by
      simp only [numD, Bool.and_eq_true, decide_eq_true_eq]
      omega
    rw [n3]
    unfold coreB
    simp only [hd, Bool.true_and]
    by_cases c : wi = (partOf walk i j).getLastD [] ∧ n = wi.length
    · rw [if_pos c, if_pos c]
    · rw [if_neg c, if_neg c, if_neg (by omega)]
      exact judges ne (by rw [hd]; exact h) same
  · have n3 : numD ((wi.length : Nat) : Int) (.int (n : Int)) = false := by
      rw [Bool.eq_false_iff]
      intro e
      simp only [numD, Bool.and_eq_true, decide_eq_true_eq] at e
      omega
    rw [n3, if_neg (fun c => h (by omega)), if_pos (by omega)]
    rfl
/-! ### what is shown of a walk is short -/
theorem w_shown {z : Str} (h : Wd z) : (PyData.str z).shown.length ≤ 10 := of_decide_eq_true (List.all_eq_true.mp (show wds.all (fun z => decide ((PyData.str z).shown.length ≤ 10)) = true by decide +kernel) z h)
theorem wds_shown : ∀ {ws : List Str}, (∀ z ∈ ws, Wd z) → ((PyData.shownAll (ws.map PyData.str)).map (·.length)).sum ≤ 10 * ws.length ∧ (PyData.shownAll (ws.map PyData.str)).length = ws.length
  | [], _ => ⟨Nat.le_refl _, rfl⟩
  | z :: ws, h => by
    have h1 := w_shown (h z List.mem_cons_self)
    obtain ⟨h2, h3⟩ := wds_shown fun y hy => h y (List.mem_cons_of_mem _ hy)
    simp only [List.map_cons, PyData.shownAll, List.sum_cons, List.length_cons]
    omega
theorem part_walk {ws : List Str} (h : Okw 30 ws) : Part (wt ws) := by
  obtain ⟨h1, h2⟩ := wds_shown h.1
  have h3 := h.2
  refine ⟨(fun z e => by cases e), ?_, ?_, ?_⟩
  · show PyData.showableAll (ws.map PyData.str) = true
    exact shows_all (parts_strs fun z hz => asc_of (h.1 z hz).asc)
  · have d := depth_words ws
    simp only [wt, PyData.depth]
    omega
  · have := tupleText_len_le (PyData.shownAll (ws.map PyData.str))
    show (tupleText (PyData.shownAll (ws.map PyData.str))).length ≤ 2000
    omega
theorem small_walk {l : List (List Str)} (h : ∀ ws ∈ l, Okw 30 ws) (hn : l.length ≤ 1000) : Small (.list (l.map wt)) ∧ (PyData.list (l.map wt)).hasDict = false :=
  ⟨small_list (fun d hd => by obtain ⟨ws, hw, rfl⟩ := List.mem_map.mp hd; exact part_walk (h ws hw)) (by rw [List.length_map]; exact hn), by rw [PyData.hasDict]; exact nodict_all⟩
theorem flat_five : ∀ {rss : List (List Rl)}, (∀ rs ∈ rss, rs.length ≤ 5) → rss.flatten.length ≤ 5 * rss.length
  | [], _ => Nat.zero_le _
  | rs :: rss, h => by
    have h1 := h rs List.mem_cons_self
    have h2 := flat_five fun ts ht => h ts (List.mem_cons_of_mem _ ht)
    rw [List.flatten_cons, List.length_append, List.length_cons]
    omega
end K28
namespace K28
open PySem L2 Ld PyProof.Rows
abbrev sLaw : Stmt := top 45
theorem call_reprDK {X : Cx} {K : PySem.W.Frag} (hG : X.A.guards = some []) (hu : X.A.units + 64 < cLine) (hK : X.K = K := by rfl) : CallR X (.builtin "repr") (fun xs H Q => ∃ v d, xs = [v] ∧ Dp K H v d ∧ d.hasDict = false ∧ Small d ∧ Q (.str d.shown) H) := by
  subst hK
  exact call_reprD hG hu
theorem pe_tableBK {X : Cx} {P : Program} {w : World} {K : PySem.W.Frag} {CT : Addr} {e : Expr} {ta : TA} {p pos : Pos} {j : Nat} (B : TmkB P w K X.mg X.base CT) (hr : Room j X.A) (ha : PA X [e] ta) (hj : 7 ≤ j := by decide) (hg : Gl X "Table" := by rfl) (he : starEach [e] X.env = (false, eval e X.env) :: starEach [] X.env := by rfl)
    (hP : X.prog = P := by rfl) (hw : X.w = w := by rfl) (hK : X.K = K := by rfl) : PE X (.Call (.Name "Table" p) [e] [] pos) (tMake CT (spInitB P w K CT) [] E0 ta) := by
  subst hP hw hK
  exact pe_tableB B hr ha hj hg he
/-! ### what stands while a walk is judged -/
structure Wk (P : Program) (w : World) (K : PySem.W.Frag) (CT : Addr) (G : Hp) (wl D6 : Addr) (ys : List V) (ts : List Addr) (walk : List (List Str)) (rss : List (List Rl)) : Prop where
  gW : G wl = some (.lst ys)
  pl : Places K G ys walk
  two : 2 ≤ walk.length
  len : walk.length ≤ 7
  ok : ∀ a ∈ walk, Okw 30 a
  gT : G D6 = some (.lst (ts.map V.ref))
  tabs : Tabs P w K CT G (ts.map V.ref) rss
  few : rss.flatten.length ≤ 150
theorem Wk.same {P : Program} {w : World} {K : PySem.W.Frag} {CT : Addr} {G G' : Hp} {wl D6 : Addr} {ys : List V} {ts : List Addr} {walk : List (List Str)} {rss : List (List Rl)} (z : Wk P w K CT G wl D6 ys ts walk rss) (s : Same G G') : Wk P w K CT G' wl D6 ys ts walk rss :=
  ⟨s _ _ z.gW, Paired.mono (fun _ _ ⟨b, e, t⟩ => ⟨b, e, same_T s t⟩) z.pl, z.two, z.len, z.ok, s _ _ z.gT, z.tabs.same s, z.few⟩
theorem Wk.low {P : Program} {w : World} {K : PySem.W.Frag} {CT : Addr} {G : Hp} {wl D6 : Addr} {ys : List V} {ts : List Addr} {walk : List (List Str)} {rss : List (List Rl)} (z : Wk P w K CT G wl D6 ys ts walk rss) : ∀ a ∈ walk, LowW a := fun a ha y hy => ((z.ok a ha).1 y hy).low
/-- is_round of what has the data d -/
theorem Wk.round {P : Program} {w : World} {K : PySem.W.Frag} {CT : Addr} {G : Hp} {wl D6 : Addr} {ys : List V} {ts : List Addr} {walk : List (List Str)} {rss : List (List Rl)} (z : Wk P w K CT G wl D6 ys ts walk rss) {v : V} {d : PyData} {Q : VK} {E : XK} (hd : Dd K G v d)
    (q : ∀ G', Same G G' → Q (.bl (roundD walk (jointsOf rss) d)) G') : spRoundB P w K CT [v, .ref wl, .ref D6] G Q E :=
  .inl ⟨v, d, wl, D6, ys, ts.map V.ref, walk, rss, rfl, hd, .of z.gW, z.pl, Nat.le_trans z.len (by decide), z.low, .inl (.of z.gT), z.tabs, z.few, q⟩
def tBrI (P : Program) (w : World) (K : PySem.W.Frag) (CT : Addr) : TT := fun σ H Q => ∃ (wl D6 : Addr) (ys : List V) (ts : List Addr) (walk : List (List Str)) (rss : List (List Rl)) (i j n : Int) (b : Bool), σ[13]? = some (some (.bl b)) ∧ σ[10]? = some (some (.int i)) ∧ σ[11]? = some (some (.int j)) ∧ σ[12]? = some (some (.int n)) ∧ σ[6]? = some (some (.ref wl)) ∧ σ[7]? = some (some (.ref D6)) ∧
  Wk P w K CT H wl D6 ys ts walk rss ∧ ∀ H', Same H H' → Q false H'
/-- a page of rules, on the list of pages D -/
def PgQ (K : PySem.W.Frag) (D : Addr) (H : Hp) (v : V) (rs : List Rl) : Prop := ∃ r xs, v = V.ref r ∧ r ≠ D ∧ H r = some (.lst xs) ∧ Rules K H xs rs ∧ Good rs ∧ (∀ t ∈ rs, t.T3) ∧ rs.length ≤ 5
theorem PgQ.sb {K : PySem.W.Frag} {D wa : Addr} {H H' : Hp} {v : V} {rs : List Rl} (z : PgQ K D H v rs) (W : Sm H wa) (s : Sb wa H H') : PgQ K D H' v rs :=
  let ⟨r, xs, e, n, h1, h2, h3⟩ := z; ⟨r, xs, e, n, s _ _ (W.ne h1 (notSm_rules h2)) h1, h2.mono fun _ _ q => smT W s q, h3⟩
theorem PgQ.same {K : PySem.W.Frag} {D : Addr} {H H' : Hp} {v : V} {rs : List Rl} (z : PgQ K D H v rs) (s : Same H H') : PgQ K D H' v rs :=
  let ⟨r, xs, e, n, h1, h2, h3⟩ := z; ⟨r, xs, e, n, s _ _ h1, h2.same s, h3⟩
theorem PgQ.put {K : PySem.W.Frag} {D : Addr} {H : Hp} {v : V} {rs : List Rl} {ks ks' : List V} (z : PgQ K D H v rs) (hD : H D = some (.lst ks)) : PgQ K D (upd H D (.lst ks')) v rs :=
  let ⟨r, xs, e, n, h1, h2, h3⟩ := z; ⟨r, xs, e, n, (upd_ne n).trans h1, h2.mono fun _ _ q => sqT_list hD q, h3⟩
theorem PgQ.lot {K : PySem.W.Frag} {D : Addr} {H : Hp} {v : V} {rs : List Rl} (z : PgQ K D H v rs) : LotAt K H v rs := let ⟨r, xs, e, _, h1, h2, _⟩ := z; ⟨r, xs, e, h1, h2⟩
theorem pgs_of {K : PySem.W.Frag} {D : Addr} {H : Hp} : ∀ {zs : List V} {rss : List (List Rl)}, Paired (PgQ K D H) zs rss → ∀ rs ∈ rss, Good rs ∧ (∀ t ∈ rs, t.T3) ∧ rs.length ≤ 5
  | _, _, .nil => fun _ h => nomatch h
  | _, _, .cons a b => fun rs h => by
    rcases List.mem_cons.mp h with rfl | h
    · obtain ⟨_, _, _, _, _, _, g⟩ := a
      exact g
    · exact pgs_of b rs h
theorem small_bl (b : Bool) : Small (.bool b) := by
  cases b <;> exact ⟨rfl, by decide, by decide +kernel⟩
def lawN : List Str := ["_law_script", "_law_start", "_law_stream_here", "_law_words_here", "_law_turn", "_law_pages", "_law_walk", "_law_tables", "_law_corners_here", "_law_seen", "_law_first", "_law_last", "_law_size", "_law_due", "_law_rows", "_law_value", "_law_page", "_law_rules_here"]
theorem scLaw : FnScope lawN ["_law_script"] (defScope sLaw) := ⟨rfl, rfl, rfl, by decide +kernel, rfl, by decide +kernel, by decide +kernel⟩
structure Defs (P : Program) (w : World) (K : PySem.W.Frag) (mg : Str → Option Value) (base : Heap) (CT : Addr) : Prop where
  stream : Df P w K mg base 1 "_law_stream" ["_law_script", "_law_start"] (spStream K)
  draw : Df P w K mg base 1 "_law_draw" ["_law_stream_here", "_law_size"] spDraw
  words : Df P w K mg base 3 "_law_words" ["_law_stream_here"] spPool
  rules : Df P w K mg base 5 "_law_rules" ["_law_stream_here", "_law_words_here", "_law_most"] (spRulesOf P w K)
  walk : Df P w K mg base 4 "_law_drawn_walk" ["_law_stream_here", "_law_rules_here", "_law_words_here"] (spDW K)
  cor : Df P w K mg base 1 "_law_corners" ["_law_tables"] (spCor P w K)
  lr : Df P w K mg base 1 "_law_is_round" ["_law_walk", "_law_places", "_law_size", "_law_corners_here"] (spLR P w K)
  od : Df P w K mg base 1 "_law_odd" ["_law_walk"] (spOD K)
  br : Df P w K mg base 5 "_law_bools_right" ["_law_turn", "_law_walk", "_law_tables"] (spBR P w K CT)
  round : Df P w K mg base 4 "is_round" ["value", "walk", "tables"] (spRoundB P w K CT)
section
variable {P : Program} {w : World} {K : PySem.W.Frag} {mg : Str → Option Value} {base : Heap} {f : Addr} {fd : FuncData} {CT : Addr}
def spLaw (K : PySem.W.Frag) : Sp := fun vs H Q _ => ∃ (a : Addr) (ns : List Int), vs = [.ref a] ∧ SqL K H a (ns.map V.int) ∧ ns.length ≤ 63 ∧ (∀ z ∈ ns, Builtin.Int.intBits z ≤ 1048576) ∧ ∀ H', Q (.bl true) H'
theorem ok_law (Fd : Fun K "law" "law" sLaw f fd) (T : Tx mg) (B : TmkB P w K mg base CT) (D : Defs P w K mg base CT)
    (EQ : ∃ f fd, NeO K CT f ∧ Binds K fd ["self", "other"] [] ∧ FnOk P w K mg base CX0 1 f fd ["self", "other"] (spEq P w K CT)) : FnG P w K mg base 10 f fd ["_law_script"] (spLaw K) := by
  refine Fun.okG Fd scLaw (fun vs H Q E h => ?_) (fun cdv A0 outer s H vs Q Ex hG hr h => ?_)
  · obtain ⟨a, ns, rfl, _⟩ := h
    rfl
  · obtain ⟨a, ns, rfl, hS, hlen, hb, q⟩ := h
    obtain ⟨fE, fdE, ZE, bE, FE⟩ := EQ
    have nd := scLaw.nd
    refine ⟨_, pss_cons (ps_for PassesOwn.never rfl (pi_range1 rfl T.range (pa_cons (pe_callB (call_max2 rfl) (by rfl) T.max (by decide +kernel) (pa_cons pe_int (pa_cons (pe_callB (call_min2 rfl) (by rfl) T.min (by decide +kernel) (pa_cons pe_int (pa_cons (pe_callB call_len_seq (by rfl) T.len PySem.boot_len (pa_cons (pv 0) pa_nil)) pa_nil))) pa_nil))) pa_nil)) (pg_name (i := 1) nd rfl (Or.inl rfl))
        (pss_cons (ps_set (i := 2) nd rfl (Or.inr rfl) (pe_df D.stream hr (pa_cons (pv 0) (pa_cons (pv 1) pa_nil))))
        (pss_cons (ps_set (i := 3) nd rfl (Or.inr rfl) (pe_df D.words hr (pa_cons (pv 2) pa_nil)))
        (pss_one (ps_for PassesOwn.never rfl (pi_range1 rfl T.range (pa_cons pe_int pa_nil)) (pg_name (i := 4) nd rfl (Or.inl rfl))
          (pss_cons (ps_setLc (i := 5) (own := [("_law_page", 16)]) (g := gName 16) (tt := tYes) (by rfl) nd rfl rfl (sw_true rfl rfl rfl rfl) (pi_range1 rfl T.range (pa_cons (pe_op op_add pe_int (pe_df D.draw hr (pa_cons (pv 2) (pa_cons pe_int pa_nil)))) pa_nil)) (blkOk_by (own := [("_law_page", 16)]) (N := lawN) (sc := defScope sLaw) (by decide +kernel))
              (fun _ _ _ _ _ => pg_name (i := 16) nd rfl (Or.inl rfl)) (fun _ _ _ _ _ => pts_nil) (fun _ _ _ _ _ => pe_df D.rules hr (pa_cons (pv 2) (pa_cons (pv 3) (pa_cons pe_int pa_nil)))))
          (pss_cons (ps_par (i := 6) (j := 7) (by rfl) nd rfl rfl (by decide) rfl rfl (pa_cons (pe_df D.walk hr (pa_cons (pv 2) (pa_cons (pe_ix ix_list (pv 5) pe_int (fun _ _ => rfl)) (pa_cons (pv 3) pa_nil)))) (pa_cons (pe_lc (own := [("_law_rules_here", 17)]) (g := gName 17) (tt := tYes) (by rfl) nd (pi_list (pv 5)) (blkOk_by (own := [("_law_rules_here", 17)]) (N := lawN) (sc := defScope sLaw) (by decide +kernel))
              (fun _ _ _ _ _ => pg_name (i := 17) nd rfl (Or.inl rfl)) (fun _ _ _ _ _ => pts_nil) (fun _ _ _ _ _ => pe_tableBK (P := P) (w := w) (K := K) B hr (pa_cons (pv 17) pa_nil))) pa_nil)) (by rfl))
          (pss_cons (ps_par (i := 8) (j := 9) (by rfl) nd rfl rfl (by decide) rfl rfl (pa_cons (pe_df D.cor hr (pa_cons (pv 5) pa_nil)) (pa_cons (pe_callB (call_reprDK (K := K) hG hr.units) (by rfl) T.repr (by decide +kernel) (pa_cons (pv 6) pa_nil)) pa_nil)) (by rfl))
          (pss_cons (ps_for PassesOwn.never rfl (pi_range1 rfl T.range (pa_cons (pe_op op_sub (pe_callB call_len_seq (by rfl) T.len PySem.boot_len (pa_cons (pv 6) pa_nil)) pe_int) pa_nil)) (pg_name (i := 10) nd rfl (Or.inl rfl))
            (pss_one (ps_for PassesOwn.never rfl (pi_range2 rfl T.range (pa_cons (pe_op op_add (pv 10) pe_int) (pa_cons (pe_callB call_len_seq (by rfl) T.len PySem.boot_len (pa_cons (pv 6) pa_nil)) pa_nil))) (pg_name (i := 11) nd rfl (Or.inl rfl))
              (pss_one (ps_for PassesOwn.never rfl (pi_range1 rfl T.range (pa_cons (pe_op op_add (pe_callB call_len_seq (by rfl) T.len PySem.boot_len (pa_cons (pe_ix ix_list (pv 6) (pv 10) (fun _ _ => rfl)) pa_nil)) pe_int) pa_nil)) (pg_name (i := 12) nd rfl (Or.inl rfl))
                (pss_cons (ps_set (i := 13) nd rfl (Or.inl rfl) (pe_df D.lr hr (pa_cons (pv 6) (pa_cons (pe_tup (pa_cons (pv 10) (pa_cons (pv 11) pa_nil))) (pa_cons (pv 12) (pa_cons (pv 8) pa_nil))))))
                (pss_cons (ps_if (pt_cmpR op_ne (pe_callB (call_reprDK (K := K) hG hr.units) (by rfl) T.repr (by decide +kernel) (pa_cons (pe_df D.round hr (pa_cons (pe_tup (pa_cons (pv 10) (pa_cons (pv 11) (pa_cons (pv 12) pa_nil)))) (pa_cons (pv 6) (pa_cons (pv 7) pa_nil)))) pa_nil)) (pe_callB (call_reprDK (K := K) hG hr.units) (by rfl) T.repr (by decide +kernel) (pa_cons (pv 13) pa_nil)) (nomark _)) pss_dead pss_nil)
                (pss_cons (ps_if (PT.conv (t := tBrI P w K CT) (PW.pt (pw_and (pt_val (pv 13)) (pw_and1 (pt_not (pt_val (pe_df D.br hr (pa_cons (pe_tup (pa_cons (pv 10) (pa_cons (pv 11) (pa_cons (pv 12) pa_nil)))) (pa_cons (pv 6) (pa_cons (pv 7) pa_nil))))))))) ?cB) pss_dead pss_nil)
                (pss_cons (ps_set (i := 14) nd rfl (Or.inl rfl) (pe_callTy call_tuple_of (by rfl) T.tuple (by decide +kernel) (pa_cons (pv 6) pa_nil)))
                (pss_one (ps_if (PW.pt (pw_and (pt_cmpR op_eq (pv 12) pe_int (nomark _)) (pw_and1 (pt_cmpR op_ne (pe_df D.round hr (pa_cons (pe_tup (pa_cons (pv 10) (pa_cons (pv 11) (pa_cons pe_int pa_nil)))) (pa_cons (pv 14) (pa_cons (pe_callTy call_tuple_of (by rfl) T.tuple (by decide +kernel) (pa_cons (pv 7) pa_nil)) pa_nil)))) (pv 13) (nomark _))))) pss_dead pss_nil)))))))))))
          (pss_cons (ps_for PassesOwn.never rfl (pi_list (pe_df D.od hr (pa_cons (pv 6) pa_nil))) (pg_name (i := 15) nd rfl (Or.inl rfl))
            (pss_one (ps_if (pt_cmpR op_notBl (pe_df D.round hr (pa_cons (pv 15) (pa_cons (pv 6) (pa_cons (pv 7) pa_nil)))) pe_bl (by rfl)) pss_dead pss_nil)))
          (pss_one (ps_if (PW.pt (pw_or (pt_cmpR op_ne (pe_callB (call_reprDK (K := K) hG hr.units) (by rfl) T.repr (by decide +kernel) (pa_cons (pv 6) pa_nil)) (pv 9) (nomark _))
              (pw_or1 (pt_cmpR (op_neLO ZE.eq ZE.fd FE (hr.mono (by decide)) bE) (pv 7) (pe_lc (own := [("_law_rules_here", 17)]) (g := gName 17) (tt := tYes) (by rfl) nd (pi_list (pv 5)) (blkOk_by (own := [("_law_rules_here", 17)]) (N := lawN) (sc := defScope sLaw) (by decide +kernel))
                (fun _ _ _ _ _ => pg_name (i := 17) nd rfl (Or.inl rfl)) (fun _ _ _ _ _ => pts_nil) (fun _ _ _ _ _ => pe_tableBK (P := P) (w := w) (K := K) B hr (pa_cons (pv 17) pa_nil))) (by rfl))))) pss_dead pss_nil))))))))))))
      (pss_one (ps_ret (pe_and (pe_cmpR op_isBl (pe_df D.round hr (pa_cons (pe_tup (pa_cons pe_int (pa_cons pe_int (pa_cons pe_int pa_nil)))) (pa_cons (pe_lst (pa_cons (pe_tup pa_nil) (pa_cons (pe_tup pa_nil) pa_nil))) (pa_cons (pe_lst pa_nil) pa_nil)))) pe_bl (by rfl))
        (pe_one (pe_cmpR op_isBl (pe_df D.round hr (pa_cons (pe_tup (pa_cons pe_int (pa_cons pe_int (pa_cons pe_int pa_nil)))) (pa_cons (pe_lst (pa_cons (pe_tup (pa_cons pe_str pa_nil)) (pa_cons (pe_tup pa_nil) pa_nil))) (pa_cons (pe_lst pa_nil) pa_nil)))) pe_bl (by rfl)))))), ?_⟩
    case cB =>
      rintro σ H Q ⟨wl, D6, ys, ts, walk, rss, i, j, n, b, e13, e10, e11, e12, e6, e7, Z, q⟩
      refine ⟨_, e13, _, rfl, ?_⟩
      cases b with
      | false => exact iteF (q H (Same.refl H))
      | true =>
        refine iteT ⟨_, e10, _, e11, _, e12, (show 3 ≤ sizeLine by decide), fun tp htp => ?_⟩
        have s1 := Same.new (o := .tup [V.int i, .int j, .int n]) htp
        have Z1 := Z.same s1
        exact ⟨_, e6, _, e7, tp, wl, D6, ys, ts.map V.ref, walk, rss, i, j, n, rfl, .of upd_same, .of Z1.gW, Z1.pl, Nat.le_trans Z1.len (by decide), Z1.low, .inl (.of Z1.gT), Z1.tabs, Z1.few, fun G s => ⟨_, rfl, q G (s1.trans s)⟩⟩
    have rangeN : ∃ N : Nat, (if (if (((ns.map V.int).length : Nat) : Int) < 3 then (((ns.map V.int).length : Nat) : Int) else 3) > 1 then (if (((ns.map V.int).length : Nat) : Int) < 3 then (((ns.map V.int).length : Nat) : Int) else 3) else 1) = (N : Int) ∧ N ≤ 3 := by
      generalize (ns.map V.int).length = l
      by_cases h1 : (l : Int) < 3
      · rw [if_pos h1]
        by_cases h2 : (l : Int) > 1
        · exact ⟨l, if_pos h2, by omega⟩
        · exact ⟨1, if_neg h2, by decide⟩
      · rw [if_neg h1]
        exact ⟨3, rfl, by decide⟩
    obtain ⟨N, eN, hN⟩ := rangeN
    refine ⟨_, rfl, a, _, rfl, .inl hS, _, _, rfl, _, _, rfl, (N : Int), by rw [eN], by omega, by omega, for_range (lo := 0) (n := (N : Int).toNat) (fun i σ G => Same H G ∧ ∃ v1 v2 v3 v4 v5 v6 v7 v8 v9 v10 v11 v12 v13 v14 v15, σ = [some (.ref a), v1, v2, v3, v4, v5, v6, v7, v8, v9, v10, v11, v12, v13, v14, v15, none, none])
      ⟨Same.refl H, none, none, none, none, none, none, none, none, none, none, none, none, none, none, none, rfl⟩ ?_ ?_⟩
    · rintro j σ G hj ⟨sG, v1, v2, v3, v4, v5, v6, v7, v8, v9, v10, v11, v12, v13, v14, v15, rfl⟩
      refine ⟨_, rfl, _, rfl, a, ns, _, 1048576, rfl, sG.seq hS, hlen, by decide, by decide, hb, by omega, by omega, fun wa G1 nwa W1 s1 => ?_⟩
      have nH : H wa = none := sG.free nwa
      refine ⟨_, rfl, wa, rfl, W1, fun pa zs G2 hpa hzm hne hlz W2 s2 => ?_⟩
      have hwz : ∀ z ∈ zs, Wd z := fun z hz => wdt (hzm z hz)
      have sH2 : Same H G2 := fun b o e => s2 b o (ne_of_none e nH) (s1 b o (sG b o e))
      refine ⟨4, rfl, by decide, by decide, for_range (lo := 0) (n := 4) (fun i σ G2 => Same H G2 ∧ Sm G2 wa ∧ G2 pa = some (.lst (zs.map V.str)) ∧ ∃ v1 v4 v5 v6 v7 v8 v9 v10 v11 v12 v13 v14 v15, σ = [some (.ref a), v1, some (.ref wa), some (.ref pa), v4, v5, v6, v7, v8, v9, v10, v11, v12, v13, v14, v15, none, none])
        ⟨sH2, W2, hpa, _, _, _, _, _, _, _, _, _, _, _, _, _, rfl⟩ ?_ ?_⟩
      · clear hpa W2 s2 sH2
        rintro i σ G2 hi ⟨sH, W2, hpa, v1, v4, v5, v6, v7, v8, v9, v10, v11, v12, v13, v14, v15, rfl⟩
        refine ⟨_, rfl, wa, 2, rfl, W2, by decide, by decide, fun k G3 k0 k1 W3 s3 => ⟨_, _, rfl, rfl, 1 + k, rfl, by omega, by omega, fun D5 hD5 => ?_⟩⟩
        have hpw : pa ≠ wa := W2.ne hpa (notSm_strs _)
        have n5 : D5 ≠ wa := fun e => by
          obtain ⟨d, mm, h1, _⟩ := W3
          rw [e, h1] at hD5
          cases hD5
        have hpa3 := s3 _ _ hpw hpa
        refine lc_range (lo := 0) (n := (1 + k).toNat) (fun i G => Sb wa G3 G ∧ Sm G wa ∧ ∃ zs2 rss, G D5 = some (.lst zs2) ∧ Paired (PgQ K D5 G) zs2 rss ∧ zs2.length = i) ⟨.of (Same.new hD5), W3.same (Same.new hD5), [], [], upd_same, .nil, rfl⟩ ?_ ?_
        · rintro t G ht ⟨sG4, WG, zs2, rss, gD, pz, lz⟩
          dsimp only [tYes]
          refine ⟨rfl, iteT ⟨_, rfl, _, rfl, wa, pa, zs, 5, rfl, by decide, WG, sG4 _ _ hpw hpa3, hne, by omega, hzm, fun l xs rs G' hl hR g t3 five W' s' nl => ?_⟩⟩
          have gD' := s' _ _ n5 gD
          have nlD : l ≠ D5 := fun e => by
            rw [e, gD] at nl
            cases nl
          have stay : ∀ {o : HO}, Sb wa G3 (upd G' D5 o) := fun {o} b u nb eb => (upd_ne (ne_of_none eb hD5)).trans (s' b u nb (sG4 b u nb eb))
          refine ⟨zs2, gD', Nat.lt_of_le_of_lt (show zs2.length ≤ 3 by omega) (by decide), stay, ?_, zs2 ++ [.ref l], rss ++ [rs], upd_same, ?_, by simp [lz]⟩
          · obtain ⟨d, m, h1, h2⟩ := W'
            exact ⟨d, m, (upd_ne n5.symm).trans h1, h2⟩
          · exact (Paired.mono (fun _ _ z => (PgQ.sb z WG s').put gD') pz).snoc ⟨l, xs, rfl, nlD, (upd_ne nlD).trans hl, hR.mono fun _ _ q => sqT_list gD' q, g, t3, five⟩
        · rintro G6 ⟨s6, W6, zs2, rss, gD6, pz6, lz⟩
          have lrs := pz6.length
          have pg := pgs_of pz6
          have hpa6 := s6 _ _ hpw hpa3
          have sH6 : Same H G6 := fun b o e => s6 b o (ne_of_none e nH) (s3 b o (ne_of_none e nH) (sH b o e))
          clear s6 s3 W3 hD5 hpa3
          obtain ⟨v0, e0⟩ : ∃ v, zs2[0]? = some v := ⟨_, List.getElem?_eq_getElem (by omega)⟩
          obtain ⟨rs0, er0, r0, xs0, rfl, nr0, hr0, hR0, g0, _⟩ := pair_get pz6 e0
          refine ⟨_, rfl, _, rfl, D5, zs2, _, _, rfl, rfl, .of gD6, at_of (j := 0) rfl e0, _, rfl, wa, r0, pa, xs0, rs0, zs, rfl, W6, hr0, hR0, g0, hpa6, hne, by omega, hwz, fun wl ys walk G7 gW pl ok l2 l7 W7 s7 nwl => ?_⟩
          have gD7 := s7 _ _ n5 gD6
          have hpa7 := s7 _ _ hpw hpa6
          have pz7 : Paired (PgQ K D5 G7) zs2 rss := Paired.mono (fun _ _ z => PgQ.sb z W6 s7) pz6
          have sH7 : Same H G7 := fun b o e => s7 b o (ne_of_none e nH) (sH6 b o e)
          clear s7 pz6 gD6 hpa6 W6 sH6 hr0 hR0 nwl
          refine ⟨_, rfl, D5, rfl, ⟨_, .of gD7⟩, fun D6 hD6 => ?_⟩
          refine lc_list (K := K) (a := D5) (xs := zs2) (fun i G => Same G7 G ∧ ∃ ts : List Addr, G D6 = some (.lst (ts.map V.ref)) ∧ Tabs P w K CT G (ts.map V.ref) ((rss.take i).map sortR) ∧ ts.length = i) ⟨Same.new hD6, [], upd_same, by rw [List.take_zero]; exact .nil, rfl⟩ (fun i G _ z => z.1.seq (.of gD7)) ?_ ?_
          · rintro t x G hx ⟨s8, ts, gL, TT, lt⟩
            obtain ⟨rs, er, r, xs, rfl, nr, hr1, hR1, g1, _⟩ := pair_get pz7 hx
            have hn := (List.getElem?_eq_some_iff.mp er).1
            dsimp only [tYes]
            refine ⟨rfl, iteT ⟨_, rfl, ?_⟩⟩
            dsimp only [tNil]
            refine make_spB (.inl (.of (s8 _ _ hr1))) (hR1.same s8) g1 fun tb G9 nb s9 Tb => ?_
            have gL9 := s9 _ _ gL
            have fr : ∀ c o, c ≠ D6 → G9 c = some o → (upd G9 D6 (.lst (ts.map V.ref ++ [V.ref tb]))) c = some o := fun c o nc e => (upd_ne nc).trans e
            refine ⟨ts.map V.ref, gL9, by rw [List.length_map]; exact Nat.lt_of_le_of_lt (show ts.length ≤ 3 by omega) (by decide), fun c o ec => (upd_ne (ne_of_none ec hD6)).trans (s9 _ _ (s8 _ _ ec)), ts ++ [tb], by rw [upd_same, List.map_append]; rfl, ?_, by simp [lt]⟩
            rw [List.take_add_one, er, List.map_append, List.map_append]
            exact ((TT.same s9).off gL9 fr).snoc ⟨tb, rfl, Tb.off gL9 fr⟩
          · rintro G8 ⟨s8, ts, gL, TT, lt⟩
            rw [List.take_of_length_le (by omega)] at TT
            have lots8 : Paired (LotAt K G8) zs2 rss := Paired.mono (fun _ _ z => (PgQ.same z s8).lot) pz7
            have few : rss.flatten.length ≤ 15 := Nat.le_trans (flat_five fun rs h => (pg rs h).2.2) (by omega)
            have fewS : (rss.map sortR).flatten.length ≤ 150 := by
              have : (rss.map sortR).flatten.length ≤ 5 * (rss.map sortR).length := flat_five fun rs h => by
                obtain ⟨us, hu, rfl⟩ := List.mem_map.mp h
                rw [(sortR_perm us).length_eq]
                exact (pg us hu).2.2
              rw [List.length_map] at this
              omega
            have Z8 : Wk P w K CT G8 wl D6 ys ts walk (rss.map sortR) := ⟨s8 _ _ gW, Paired.mono (fun _ _ ⟨b, e, t⟩ => ⟨b, e, same_T s8 t⟩) pl, l2, l7, ok, gL, TT, fewS⟩
            have gD8 := s8 _ _ gD7
            have W8 := W7.same s8
            have hpa8 := s8 _ _ hpa7
            have sH8 := sH7.trans s8
            have good8 : ∀ {G : Hp}, Same G8 G → ∀ {t : Nat} {v : V}, zs2[t]? = some v → ∃ rs, rss[t]? = some rs ∧ ∃ r xs, v = .ref r ∧ G r = some (.lst xs) ∧ Rules K G xs rs ∧ Good rs := fun sG t v hv => by
              obtain ⟨rs, er, r, xs, e, _, h1, h2, h3, _⟩ := pair_get pz7 hv
              exact ⟨rs, er, r, xs, e, sG _ _ (s8 _ _ h1), h2.same (s8.trans sG), h3⟩
            clear s8 pz7 gD7 hpa7 W7 sH7 gW pl gL TT
            refine ⟨_, _, rfl, ?_⟩
            obtain ⟨smW, ndW⟩ := small_walk ok (by omega)
            refine ⟨_, rfl, D5, zs2, rss, rfl, .of gD8, lots8, (fun rs h r hr => ((pg rs h).1.ok r hr).len), by omega, fun Dc F rows nDc s9 jd => ⟨_, rfl, .ref wl, _, rfl, .lst (.of (s9 _ _ Z8.gW)) (dpAll_same s9 (places_dp Z8.pl)), ndW, smW, _, _, rfl, ?_⟩⟩
            have Z := Z8.same s9
            have gDF := s9 _ _ gD8
            have goodF : ∀ {G : Hp}, Same F G → ∀ {t : Nat} {v : V}, zs2[t]? = some v → ∃ rs, rss[t]? = some rs ∧ ∃ r xs, v = .ref r ∧ G r = some (.lst xs) ∧ Rules K G xs rs ∧ Good rs := fun sG => good8 (s9.trans sG)
            have WF := W8.same s9
            have hpaF := s9 _ _ hpa8
            have sHF := sH8.trans s9
            clear s9 gD8 good8 W8 hpa8 sH8 lots8 Z8
            have lY := Z.pl.length
            refine ⟨_, rfl, wl, _, rfl, .inl (.of Z.gW), _, _, rfl, rfl, (ys.length : Int) - 1, rfl, by omega, by omega, ?_⟩
            refine for_range (lo := 0) (n := ((ys.length : Int) - 1).toNat) (fun i2 σ G => Same F G ∧ ∃ v10 v11 v12 v13 v14, σ = [some (.ref a), v1, some (.ref wa), some (.ref pa), some (.int (0 + (i : Int))), some (.ref D5), some (.ref wl), some (.ref D6), some (.ref Dc), some (.str (PyData.list (walk.map wt)).shown), v10, v11, v12, v13, v14, v15, none, none]) ⟨Same.refl F, _, _, _, _, _, rfl⟩ ?_ ?_
            · rintro i2 σ G hi2 ⟨sG, v10, v11, v12, v13, v14, rfl⟩
              have hi3 : i2 + 1 < walk.length := by omega
              have e10 : (0 + (i2 : Int)) = (i2 : Int) := by omega
              rw [e10]
              have ZG := Z.same sG
              refine ⟨_, rfl, _, _, rfl, rfl, _, rfl, wl, _, rfl, .inl (.of ZG.gW), ((i2 + 1 : Nat) : Int), (ys.length : Int), rfl, ⟨by omega, by omega, by omega, by omega⟩, ?_⟩
              refine for_range (lo := ((i2 + 1 : Nat) : Int)) (n := ((ys.length : Int) - ((i2 + 1 : Nat) : Int)).toNat) (fun t σ G => Same F G ∧ ∃ v11 v12 v13 v14, σ = [some (.ref a), v1, some (.ref wa), some (.ref pa), some (.int (0 + (i : Int))), some (.ref D5), some (.ref wl), some (.ref D6), some (.ref Dc), some (.str (PyData.list (walk.map wt)).shown), some (.int (i2 : Int)), v11, v12, v13, v14, v15, none, none]) ⟨sG, _, _, _, _, rfl⟩ ?_ ?_
              · clear sG ZG v11 v12 v13 v14
                rintro t σ G ht ⟨sG, v11, v12, v13, v14, rfl⟩
                obtain ⟨j2, ej2⟩ : ∃ j2, j2 = i2 + 1 + t := ⟨_, rfl⟩
                have e11 : (((i2 + 1 : Nat) : Int) + (t : Int)) = (j2 : Int) := by omega
                rw [e11]
                have hij : i2 < j2 := by omega
                have hj2 : j2 < walk.length := by omega
                have ZG := Z.same sG
                obtain ⟨vi, evi⟩ : ∃ v, ys[i2]? = some v := ⟨_, List.getElem?_eq_getElem (by omega)⟩
                obtain ⟨wi, ewi, pi, rfl, hpi⟩ := pair_get ZG.pl evi
                have lwi : wi.length ≤ 30 := (Z.ok wi (List.mem_of_getElem? ewi)).2
                refine ⟨_, rfl, _, rfl, wl, ys, _, _, rfl, rfl, .of ZG.gW, at_of (j := i2) rfl evi, pi, _, rfl, .inr hpi, _, _, rfl, rfl, (((wi.map V.str).length : Nat) : Int) + 2, rfl, by omega, by rw [List.length_map]; omega, ?_⟩
                refine for_range (lo := 0) (n := ((((wi.map V.str).length : Nat) : Int) + 2).toNat) (fun t σ G => Same F G ∧ ∃ v12 v13 v14, σ = [some (.ref a), v1, some (.ref wa), some (.ref pa), some (.int (0 + (i : Int))), some (.ref D5), some (.ref wl), some (.ref D6), some (.ref Dc), some (.str (PyData.list (walk.map wt)).shown), some (.int (i2 : Int)), some (.int (j2 : Int)), v12, v13, v14, v15, none, none]) ⟨sG, _, _, _, rfl⟩ ?_ ?_
                · clear sG ZG hpi v12 v13 v14
                  rintro n σ G hn ⟨sG, v12, v13, v14, rfl⟩
                  have e12 : (0 + (n : Int)) = (n : Int) := by omega
                  rw [e12]
                  have ZG := Z.same sG
                  refine ⟨_, rfl, _, rfl, _, rfl, (show 2 ≤ sizeLine by decide), fun pp hpp => ?_⟩
                  have s1 := Same.new (o := .tup [V.int (i2 : Int), .int (j2 : Int)]) hpp
                  have kp : SqT K (upd G pp (.tup [V.int (i2 : Int), .int (j2 : Int)])) pp [V.int (i2 : Int), .int (j2 : Int)] := .of upd_same
                  generalize upd G pp (.tup [V.int (i2 : Int), .int (j2 : Int)]) = Ga at s1 kp ⊢
                  have sa := sG.trans s1
                  have Za := Z.same sa
                  refine ⟨_, rfl, _, rfl, wl, pp, Dc, ys, walk, i2, j2, n, rows, corOf rss, rfl, .of Za.gW, Za.pl, kp, hij, hj2, Nat.le_trans l7 (by decide), Za.low, jd.same sa, fun Gb sb => ?_⟩
                  rw [round_law hij hj2 (fun x => joints_cor rss x)]
                  generalize hdue : roundD walk (jointsOf (rss.map sortR)) (.tuple [.int (i2 : Int), .int (j2 : Int), .int (n : Int)]) = due
                  have sB := sa.trans sb
                  clear s1 kp Za sa sG ZG sb
                  refine ⟨_, rfl, _, rfl, _, rfl, (show 3 ≤ sizeLine by decide), fun tp htp => ?_⟩
                  have s2 := Same.new (o := .tup [V.int (i2 : Int), .int (j2 : Int), .int (n : Int)]) htp
                  have dT : Dd K (upd Gb tp (.tup [V.int (i2 : Int), .int (j2 : Int), .int (n : Int)])) (.ref tp) (.tuple [.int (i2 : Int), .int (j2 : Int), .int (n : Int)]) := .tup (.of upd_same) (.cons (.int _) (.cons (.int _) (.cons (.int _) .nil)))
                  generalize upd Gb tp (.tup [V.int (i2 : Int), .int (j2 : Int), .int (n : Int)]) = Gc at s2 dT ⊢
                  have sC := sB.trans s2
                  refine ⟨_, rfl, _, rfl, Wk.round (Z.same sC) dT fun Gd sd => ?_⟩
                  rw [hdue]
                  refine ⟨.bl due, .bool due, rfl, .bl due, rfl, small_bl due, _, rfl, .bl due, .bool due, rfl, .bl due, rfl, small_bl due, rfl, _, rfl, ?_⟩
                  rw [show (!decide (V.str (PyData.bool due).shown = V.str (PyData.bool due).shown)) = false by simp]
                  have sD := sC.trans sd
                  refine iteF ⟨wl, D6, ys, ts, walk, _, _, _, _, due, rfl, rfl, rfl, rfl, rfl, rfl, Z.same sD, fun Ge se => iteF ?_⟩
                  have sE := sD.trans se
                  have ZE2 := Z.same sE
                  refine ⟨_, rfl, wl, _, rfl, .inl ⟨.of ZE2.gW, fun rt hrt => ?_⟩⟩
                  have s3 := Same.new (o := .tup ys) hrt
                  have kr : SqT K (upd Ge rt (.tup ys)) rt ys := .of upd_same
                  generalize upd Ge rt (.tup ys) = Gf at s3 kr ⊢
                  have sF := sE.trans s3
                  refine ⟨_, rfl, rfl, _, rfl, ?_⟩
                  by_cases h1 : n = 1
                  · subst h1
                    rw [show decide (V.int ((1 : Nat) : Int) = V.int 1) = true by decide +kernel]
                    refine iteT ⟨_, rfl, _, rfl, (show 3 ≤ sizeLine by decide), fun tq htq => ?_⟩
                    have s4 := Same.new (o := .tup [V.int (i2 : Int), .int (j2 : Int), .int 1]) htq
                    have dQ : Dd K (upd Gf tq (.tup [V.int (i2 : Int), .int (j2 : Int), .int 1])) (.ref tq) (.tuple [.int (i2 : Int), .int (j2 : Int), .int ((1 : Nat) : Int)]) := .tup (.of upd_same) (.cons (.int _) (.cons (.int _) (.cons (.int _) .nil)))
                    generalize upd Gf tq (.tup [V.int (i2 : Int), .int (j2 : Int), .int 1]) = Gg at s4 dQ ⊢
                    have sGg := sF.trans s4
                    have Zg := Z.same sGg
                    refine ⟨_, rfl, _, rfl, D6, _, rfl, .inl ⟨.of Zg.gT, fun tt htt => ?_⟩⟩
                    have s5 := Same.new (o := .tup (ts.map V.ref)) htt
                    have kt : SqT K (upd Gg tt (.tup (ts.map V.ref))) tt (ts.map V.ref) := .of upd_same
                    generalize upd Gg tt (.tup (ts.map V.ref)) = Gh at s5 kt ⊢
                    have sHh := sGg.trans s5
                    have Zh := Z.same sHh
                    refine .inr ⟨.ref tq, _, rt, tt, ys, ts.map V.ref, walk, rss.map sortR, rfl, dQ.same s5, same_T (s4.trans s5) kr, Zh.pl, Nat.le_trans l7 (by decide), Zh.low, .inr kt, Zh.tabs, fewS, fun Gi si => ?_⟩
                    rw [hdue]
                    refine ⟨_, rfl, rfl, _, rfl, ?_⟩
                    rw [show (!decide (V.bl due = V.bl due)) = false by simp]
                    exact iteF ⟨sHh.trans si, _, _, _, rfl⟩
                  · rw [show decide (V.int (n : Int) = V.int 1) = false from decide_eq_false (fun e => by injection e with e; exact h1 (by omega))]
                    exact iteF (iteF ⟨sF, _, _, _, rfl⟩)
                · rintro σ G ⟨sG, v12, v13, v14, rfl⟩
                  exact ⟨sG, _, _, _, _, rfl⟩
              · rintro σ G ⟨sG, v11, v12, v13, v14, rfl⟩
                exact ⟨sG, _, _, _, _, _, rfl⟩
            · rintro σ G ⟨sG, v10, v11, v12, v13, v14, rfl⟩
              have ZG := Z.same sG
              refine ⟨_, rfl, wl, ys, walk, rfl, .of ZG.gW, ZG.pl, by omega, Nat.le_trans l7 (by decide), fun od os ds Ga sa kO dO hf => ?_⟩
              have sA := sG.trans sa
              refine ⟨od, rfl, ⟨_, .of kO⟩, for_list (K := K) (a := od) (xs := os) (fun i2 σ G => Same Ga G ∧ ∃ v15, σ = [some (.ref a), v1, some (.ref wa), some (.ref pa), some (.int (0 + (i : Int))), some (.ref D5), some (.ref wl), some (.ref D6), some (.ref Dc), some (.str (PyData.list (walk.map wt)).shown), v10, v11, v12, v13, v14, v15, none, none])
                ⟨Same.refl Ga, _, rfl⟩ (fun i2 σ G _ h => .of (h.1 _ _ kO)) ?_ ?_⟩
              · rintro i2 x σ G hx ⟨sG2, v15, rfl⟩
                obtain ⟨d, ed, hd⟩ := dO.get i2 x hx
                refine ⟨_, rfl, _, rfl, _, rfl, Wk.round (Z.same (sA.trans sG2)) (hd.same sG2) fun Gb sb => ?_⟩
                rw [hf d (List.mem_of_getElem? ed)]
                refine ⟨_, _, rfl, rfl, _, rfl, ?_⟩
                rw [show (!decide (false = false)) = false by decide]
                exact iteF ⟨sG2.trans sb, _, rfl⟩
              · rintro σ G ⟨sG2, v15, rfl⟩
                have sB := sA.trans sG2
                have ZB := Z.same sB
                refine ⟨_, rfl, .ref wl, _, rfl, .lst (.of ZB.gW) (places_dp ZB.pl), ndW, smW, _, rfl, rfl, _, rfl, ?_⟩
                rw [show (!decide (V.str (PyData.list (walk.map wt)).shown = V.str (PyData.list (walk.map wt)).shown)) = false by simp]
                refine iteF ⟨_, rfl, _, rfl, D5, rfl, ⟨_, .of (sB _ _ gDF)⟩, fun D7 hD7 => ?_⟩
                have gDB := sB _ _ gDF
                refine lc_list (K := K) (a := D5) (xs := zs2) (fun i G9 => Same G G9 ∧ ∃ us : List Addr, G9 D7 = some (.lst (us.map V.ref)) ∧ Tabs P w K CT G9 (us.map V.ref) ((rss.take i).map sortR) ∧ us.length = i) ⟨Same.new hD7, [], upd_same, by rw [List.take_zero]; exact .nil, rfl⟩ (fun i G _ z => z.1.seq (.of gDB)) ?_ ?_
                · rintro t x G9 hx ⟨s8, us, gL, TT, lt2⟩
                  obtain ⟨rs, er, r, xs, rfl, hr1, hR1, g1⟩ := goodF (sB.trans s8) hx
                  have hn := (List.getElem?_eq_some_iff.mp er).1
                  dsimp only [tYes]
                  refine ⟨rfl, iteT ⟨_, rfl, ?_⟩⟩
                  dsimp only [tNil]
                  refine make_spB (.inl (.of hr1)) hR1 g1 fun tb Gb nb s9 Tb => ?_
                  have gL9 := s9 _ _ gL
                  have fr : ∀ c o, c ≠ D7 → Gb c = some o → (upd Gb D7 (.lst (us.map V.ref ++ [V.ref tb]))) c = some o := fun c o nc e => (upd_ne nc).trans e
                  refine ⟨us.map V.ref, gL9, by rw [List.length_map]; exact Nat.lt_of_le_of_lt (show us.length ≤ 3 by omega) (by decide), fun c o ec => (upd_ne (ne_of_none ec hD7)).trans (s9 _ _ (s8 _ _ ec)), us ++ [tb], by rw [upd_same, List.map_append]; rfl, ?_, by simp [lt2]⟩
                  rw [List.take_add_one, er, List.map_append, List.map_append]
                  exact ((TT.same s9).off gL9 fr).snoc ⟨tb, rfl, Tb.off gL9 fr⟩
                · rintro G9 ⟨s8, us, gL, TT, lt2⟩
                  rw [List.take_of_length_le (by omega)] at TT
                  have Z9 := ZB.same s8
                  refine ⟨D6, D7, ts, us, rfl, rfl, Z9.gT, gL, by omega, fun t c1 c2 h1 h2 => ?_, ?_⟩
                  · obtain ⟨rs1, er1, a1, e1, T1⟩ := pair_get Z9.tabs (show (ts.map V.ref)[t]? = some (V.ref c1) by rw [List.getElem?_map, h1]; rfl)
                    obtain ⟨rs2, er2, a2, e2, T2⟩ := pair_get TT (show (us.map V.ref)[t]? = some (V.ref c2) by rw [List.getElem?_map, h2]; rfl)
                    rw [er1] at er2
                    obtain rfl := Option.some.inj er2
                    cases e1
                    cases e2
                    obtain ⟨ox, ot, od9, oz, orows, om, o8, _⟩ := id T1
                    obtain ⟨tx, tt, td, tz, trows, tm, t8, _⟩ := id T2
                    exact ⟨⟨ox, _, tx, _, o8, t8⟩, c1, c2, rs1, rs1, rfl, T1, T2, by simp, rfl⟩
                  · refine ⟨_, rfl, iteF ?_⟩
                    have s9 := sB.trans s8
                    exact ⟨sHF.trans s9, WF.same s9, s9 _ _ hpaF, _, _, _, _, _, _, _, _, _, _, _, _, _, rfl⟩
      · rintro σ G2 ⟨sH, W2, hpa, v1, v4, v5, v6, v7, v8, v9, v10, v11, v12, v13, v14, v15, rfl⟩
        exact ⟨sH, _, _, _, _, _, _, _, _, _, _, _, _, _, _, _, rfl⟩
    · rintro σ G ⟨sG, v1, v2, v3, v4, v5, v6, v7, v8, v9, v10, v11, v12, v13, v14, v15, rfl⟩
      refine ⟨(show 3 ≤ sizeLine by decide), fun tp htp => ⟨(show 0 ≤ sizeLine by decide), fun p1 hp1 => ⟨(show 0 ≤ sizeLine by decide), fun p2 hp2 => ⟨(show 2 ≤ sizeLine by decide), fun wl hwl => ⟨(show 0 ≤ sizeLine by decide), fun tl htl => ?_⟩⟩⟩⟩⟩
      have y1 := Same.new (o := .tup [V.int 0, .int 1, .int 0]) htp
      have y2 := Same.new (o := .tup []) hp1
      have y3 := Same.new (o := .tup []) hp2
      have y4 := Same.new (o := .lst [V.ref p1, .ref p2]) hwl
      have y5 := Same.new (o := .lst []) htl
      have d0 := fun (x y z : Int) => (fun {G : Hp} {b : Addr} (h : SqT K G b [.int x, .int y, .int z]) => (Dd.tup h (.cons (.int _) (.cons (.int _) (.cons (.int _) .nil))) : Dd K G (.ref b) (.tuple [.int x, .int y, .int z])))
      have low0 : ∀ w ∈ ([["a"], []] : List (List Str)), LowW w := fun w hw z hz => by
        simp only [List.mem_cons, List.not_mem_nil, or_false] at hw
        rcases hw with rfl | rfl
        · rw [List.mem_singleton.mp hz]
          decide +kernel
        · cases hz
      have low1 : ∀ w ∈ ([[], []] : List (List Str)), LowW w := fun w hw z hz => by
        simp only [List.mem_cons, List.not_mem_nil, or_false] at hw
        rcases hw with rfl | rfl <;> cases hz
      refine .inl ⟨.ref tp, _, wl, tl, [.ref p1, .ref p2], [], [[], []], [], rfl, d0 0 1 0 (same_T (y2.trans (y3.trans (y4.trans y5))) (.of upd_same)), .of (y5 _ _ upd_same), .cons ⟨p1, rfl, same_T (y3.trans (y4.trans y5)) (.of upd_same)⟩ (.cons ⟨p2, rfl, same_T (y4.trans y5) (.of upd_same)⟩ .nil), by decide, low1, .inl (.of upd_same), .nil, by decide, fun G' _ => ?_⟩
      rw [show roundD [[], []] (jointsOf []) (.tuple [.int 0, .int 1, .int 0]) = true by decide +kernel]
      refine ⟨_, _, rfl, rfl, _, rfl, ?_⟩
      rw [show decide (true = true) = true by decide]
      clear y1 y2 y3 y4 y5 htp hp1 hp2 hwl htl
      refine iteT ⟨(show 3 ≤ sizeLine by decide), fun tp htp => ⟨(show 1 ≤ sizeLine by decide), fun p1 hp1 => ⟨(show 0 ≤ sizeLine by decide), fun p2 hp2 => ⟨(show 2 ≤ sizeLine by decide), fun wl hwl => ⟨(show 0 ≤ sizeLine by decide), fun tl htl => ?_⟩⟩⟩⟩⟩
      have y1 := Same.new (o := .tup [V.int 0, .int 1, .int 1]) htp
      have y2 := Same.new (o := .tup [V.str "a"]) hp1
      have y3 := Same.new (o := .tup []) hp2
      have y4 := Same.new (o := .lst [V.ref p1, .ref p2]) hwl
      have y5 := Same.new (o := .lst []) htl
      refine .inl ⟨.ref tp, _, wl, tl, [.ref p1, .ref p2], [], [["a"], []], [], rfl, d0 0 1 1 (same_T (y2.trans (y3.trans (y4.trans y5))) (.of upd_same)), .of (y5 _ _ upd_same), .cons ⟨p1, rfl, same_T (y3.trans (y4.trans y5)) (.of upd_same)⟩ (.cons ⟨p2, rfl, same_T (y4.trans y5) (.of upd_same)⟩ .nil), by decide, low0, .inl (.of upd_same), .nil, by decide, fun G' _ => ?_⟩
      rw [show roundD [["a"], []] (jointsOf []) (.tuple [.int 0, .int 1, .int 1]) = false by decide +kernel]
      refine ⟨_, _, rfl, rfl, ?_⟩
      rw [show decide (false = false) = true by decide]
      exact q _
end
end K28
namespace K28
open PySem PySem.Spec PyProof.Rows L2 Ld
theorem kit_yes {K : PySem.W.Frag} {C C' : Addr} (s : PySem.W.subIn K (.ref C) (.ref C') = some true) (hc : PySem.W.isClsIn K C' = true) (ht : PySem.W.typeIn K (.ref C') = some (.type "type")) : PySem.W.kitOne K (.ref C) (.ref C') = some true := by
  unfold PySem.W.kitOne
  by_cases e2 : (Value.ref C == Value.ref C') = true
  · rw [if_pos e2]
  · rw [if_neg e2]
    show (if ((PySem.W.clsIn K C').isSome && PySem.W.typeIn K (.ref C') == some (.type "type")) = true then PySem.W.subIn K (.ref C) (.ref C') else none) = some true
    rw [show (PySem.W.clsIn K C').isSome = true from hc, ht, if_pos (by decide)]
    exact s
theorem all_mk {l : PySem.W.OpenLaw} {w : World} {K : PySem.W.Frag} {h : Heap} {mg : Str → Option Value} {fa : Addr} (X : K.In h) (G : h.Ns mainGlobals mg) (hfa : mg "law" = some (.ref fa))
    {f1 f2 f3 f4 f5 f6 f7 f8 f9 f10 f11 f12 f13 f14 f15 f16 f17 f18 f19 f20 f21 f22 f23 f24 f25 f26 f27 f28 CT fT dT eT kd pR qR qE : Addr}
    {od1 an1 od2 an2 od3 an3 od4 an4 od5 an5 od6 an6 od7 an7 od8 an8 od9 an9 od10 an10 od11 an11 od12 an12 od13 an13 od14 an14 od15 an15 od16 an16 od17 an17 od18 an18 od19 an19 od20 an20 od21 an21 od22 an22 od23 an23 od24 an24 od25 an25 od26 an26 od27 an27 od28 an28 odT anT odRm anRm odEm anEm : Option Addr}
    {sl1 sl2 sl3 sl4 sl5 sl6 sl7 sl8 sl9 sl10 sl11 sl12 sl13 sl14 sl15 sl16 sl17 sl18 sl19 sl20 sl21 sl22 sl23 sl24 sl25 sl26 sl27 sl28 slT slRm slEm dts : Array (Option Value)}
    {oc1 kV1 dc1 pm1 cd1 ct1 oc2 kV2 dc2 pm2 cd2 ct2 oc3 kV3 dc3 pm3 cd3 ct3 oc4 kV4 dc4 pm4 cd4 ct4 oc5 kV5 dc5 pm5 cd5 ct5 oc6 kV6 dc6 pm6 cd6 ct6 oc7 kV7 dc7 pm7 cd7 ct7 oc8 kV8 dc8 pm8 cd8 ct8 oc9 kV9 dc9 pm9 cd9 ct9 oc10 kV10 dc10 pm10 cd10 ct10 oc11 kV11 dc11 pm11 cd11 ct11 oc12 kV12 dc12 pm12 cd12 ct12 oc13 kV13 dc13 pm13 cd13 ct13 oc14 kV14 dc14 pm14 cd14 ct14 oc15 kV15 dc15 pm15 cd15 ct15 oc16 kV16 dc16 pm16 cd16 ct16 oc17 kV17 dc17 pm17 cd17 ct17 oc18 kV18 dc18 pm18 cd18 ct18 oc19 kV19 dc19 pm19 cd19 ct19 oc20 kV20 dc20 pm20 cd20 ct20 oc21 kV21 dc21 pm21 cd21 ct21 oc22 kV22 dc22 pm22 cd22 ct22 oc23 kV23 dc23 pm23 cd23 ct23 oc24 kV24 dc24 pm24 cd24 ct24 oc25 kV25 dc25 pm25 cd25 ct25 oc26 kV26 dc26 pm26 cd26 ct26 oc27 kV27 dc27 pm27 cd27 ct27 oc28 kV28 dc28 pm28 cd28 ct28 ocT kVT dcT pmT cdT ctT ocRm kVRm dcRm pmRm cdRm ctRm ocEm kVEm dcEm pmEm cdEm ctEm dtc : Value} {dtd : Option Addr} {dn kn : Nat} {h1 h2 : Int} {t1' t2' u1 u2 : Tok} {rr : List Value}
    (a1 : PySem.W.nsIn K mainGlobals "is_number_to" = some (some (.ref f1)))
    (l1 : K.lookup f1 = some ⟨oc1, od1, .func (PySem.W.fnOf "is_number_to" "is_number_to" (defArgs sNum) (defBody sNum) (defScope sNum) .none kV1 dc1 pm1 an1 cd1 ct1), sl1⟩)
    (c1 : PySem.W.codeIn K cd1 "is_number_to" = true)
    (k1 : PySem.W.keepIn K (.ref f1) = true)
    (a2 : PySem.W.nsIn K mainGlobals "is_word" = some (some (.ref f2)))
    (l2 : K.lookup f2 = some ⟨oc2, od2, .func (PySem.W.fnOf "is_word" "is_word" (defArgs sWord) (defBody sWord) (defScope sWord) .none kV2 dc2 pm2 an2 cd2 ct2), sl2⟩)
    (c2 : PySem.W.codeIn K cd2 "is_word" = true)
    (k2 : PySem.W.keepIn K (.ref f2) = true)
    (a3 : PySem.W.nsIn K mainGlobals "is_address" = some (some (.ref f3)))
    (l3 : K.lookup f3 = some ⟨oc3, od3, .func (PySem.W.fnOf "is_address" "is_address" (defArgs sAddr) (defBody sAddr) (defScope sAddr) .none kV3 dc3 pm3 an3 cd3 ct3), sl3⟩)
    (c3 : PySem.W.codeIn K cd3 "is_address" = true)
    (k3 : PySem.W.keepIn K (.ref f3) = true)
    (a4 : PySem.W.nsIn K mainGlobals "is_place" = some (some (.ref f4)))
    (l4 : K.lookup f4 = some ⟨oc4, od4, .func (PySem.W.fnOf "is_place" "is_place" (defArgs sPlace) (defBody sPlace) (defScope sPlace) .none kV4 dc4 pm4 an4 cd4 ct4), sl4⟩)
    (c4 : PySem.W.codeIn K cd4 "is_place" = true)
    (k4 : PySem.W.keepIn K (.ref f4) = true)
    (a5 : PySem.W.nsIn K mainGlobals "is_rule" = some (some (.ref f5)))
    (l5 : K.lookup f5 = some ⟨oc5, od5, .func (PySem.W.fnOf "is_rule" "is_rule" (defArgs sRule) (defBody sRule) (defScope sRule) .none kV5 dc5 pm5 an5 cd5 ct5), sl5⟩)
    (c5 : PySem.W.codeIn K cd5 "is_rule" = true)
    (k5 : PySem.W.keepIn K (.ref f5) = true)
    (a6 : PySem.W.nsIn K mainGlobals "_is_answer" = some (some (.ref f6)))
    (l6 : K.lookup f6 = some ⟨oc6, od6, .func (PySem.W.fnOf "_is_answer" "_is_answer" (defArgs sAnswer) (defBody sAnswer) (defScope sAnswer) .none kV6 dc6 pm6 an6 cd6 ct6), sl6⟩)
    (c6 : PySem.W.codeIn K cd6 "_is_answer" = true)
    (k6 : PySem.W.keepIn K (.ref f6) = true)
    (a7 : PySem.W.nsIn K mainGlobals "begins" = some (some (.ref f7)))
    (l7 : K.lookup f7 = some ⟨oc7, od7, .func (PySem.W.fnOf "begins" "begins" (defArgs sBegins) (defBody sBegins) (defScope sBegins) .none kV7 dc7 pm7 an7 cd7 ct7), sl7⟩)
    (c7 : PySem.W.codeIn K cd7 "begins" = true)
    (k7 : PySem.W.keepIn K (.ref f7) = true)
    (a8 : PySem.W.nsIn K mainGlobals "address_key" = some (some (.ref f8)))
    (l8 : K.lookup f8 = some ⟨oc8, od8, .func (PySem.W.fnOf "address_key" "address_key" (defArgs sKey) (defBody sKey) (defScope sKey) .none kV8 dc8 pm8 an8 cd8 ct8), sl8⟩)
    (c8 : PySem.W.codeIn K cd8 "address_key" = true)
    (k8 : PySem.W.keepIn K (.ref f8) = true)
    (a9 : PySem.W.nsIn K mainGlobals "beginnings" = some (some (.ref f9)))
    (l9 : K.lookup f9 = some ⟨oc9, od9, .func (PySem.W.fnOf "beginnings" "beginnings" (defArgs sBegs) (defBody sBegs) (defScope sBegs) .none kV9 dc9 pm9 an9 cd9 ct9), sl9⟩)
    (c9 : PySem.W.codeIn K cd9 "beginnings" = true)
    (k9 : PySem.W.keepIn K (.ref f9) = true)
    (a10 : PySem.W.nsIn K mainGlobals "rule_key" = some (some (.ref f10)))
    (l10 : K.lookup f10 = some ⟨oc10, od10, .func (PySem.W.fnOf "rule_key" "rule_key" (defArgs sRK) (defBody sRK) (defScope sRK) .none kV10 dc10 pm10 an10 cd10 ct10), sl10⟩)
    (c10 : PySem.W.codeIn K cd10 "rule_key" = true)
    (k10 : PySem.W.keepIn K (.ref f10) = true)
    (a11 : PySem.W.nsIn K mainGlobals "joints_found" = some (some (.ref f11)))
    (l11 : K.lookup f11 = some ⟨oc11, od11, .func (PySem.W.fnOf "joints_found" "joints_found" (defArgs sJF) (defBody sJF) (defScope sJF) .none kV11 dc11 pm11 an11 cd11 ct11), sl11⟩)
    (c11 : PySem.W.codeIn K cd11 "joints_found" = true)
    (k11 : PySem.W.keepIn K (.ref f11) = true)
    (a12 : PySem.W.nsIn K mainGlobals "is_round" = some (some (.ref f12)))
    (l12 : K.lookup f12 = some ⟨oc12, od12, .func (PySem.W.fnOf "is_round" "is_round" (defArgs sRound) (defBody sRound) (defScope sRound) .none kV12 dc12 pm12 an12 cd12 ct12), sl12⟩)
    (c12 : PySem.W.codeIn K cd12 "is_round" = true)
    (k12 : PySem.W.keepIn K (.ref f12) = true)
    (a13 : PySem.W.nsIn K mainGlobals "_can_be_repeated" = some (some (.ref f13)))
    (l13 : K.lookup f13 = some ⟨oc13, od13, .func (PySem.W.fnOf "_can_be_repeated" "_can_be_repeated" (defArgs sRep) (defBody sRep) (defScope sRep) .none kV13 dc13 pm13 an13 cd13 ct13), sl13⟩)
    (c13 : PySem.W.codeIn K cd13 "_can_be_repeated" = true)
    (k13 : PySem.W.keepIn K (.ref f13) = true)
    (a14 : PySem.W.nsIn K mainGlobals "_law_stream" = some (some (.ref f14)))
    (l14 : K.lookup f14 = some ⟨oc14, od14, .func (PySem.W.fnOf "_law_stream" "_law_stream" (defArgs sStream) (defBody sStream) (defScope sStream) .none kV14 dc14 pm14 an14 cd14 ct14), sl14⟩)
    (c14 : PySem.W.codeIn K cd14 "_law_stream" = true)
    (k14 : PySem.W.keepIn K (.ref f14) = true)
    (a15 : PySem.W.nsIn K mainGlobals "_law_draw" = some (some (.ref f15)))
    (l15 : K.lookup f15 = some ⟨oc15, od15, .func (PySem.W.fnOf "_law_draw" "_law_draw" (defArgs sDraw) (defBody sDraw) (defScope sDraw) .none kV15 dc15 pm15 an15 cd15 ct15), sl15⟩)
    (c15 : PySem.W.codeIn K cd15 "_law_draw" = true)
    (k15 : PySem.W.keepIn K (.ref f15) = true)
    (a16 : PySem.W.nsIn K mainGlobals "_law_choose" = some (some (.ref f16)))
    (l16 : K.lookup f16 = some ⟨oc16, od16, .func (PySem.W.fnOf "_law_choose" "_law_choose" (defArgs sChoose) (defBody sChoose) (defScope sChoose) .none kV16 dc16 pm16 an16 cd16 ct16), sl16⟩)
    (c16 : PySem.W.codeIn K cd16 "_law_choose" = true)
    (k16 : PySem.W.keepIn K (.ref f16) = true)
    (a17 : PySem.W.nsIn K mainGlobals "_law_shuffled" = some (some (.ref f17)))
    (l17 : K.lookup f17 = some ⟨oc17, od17, .func (PySem.W.fnOf "_law_shuffled" "_law_shuffled" (defArgs sShuf) (defBody sShuf) (defScope sShuf) .none kV17 dc17 pm17 an17 cd17 ct17), sl17⟩)
    (c17 : PySem.W.codeIn K cd17 "_law_shuffled" = true)
    (k17 : PySem.W.keepIn K (.ref f17) = true)
    (a18 : PySem.W.nsIn K mainGlobals "_law_words" = some (some (.ref f18)))
    (l18 : K.lookup f18 = some ⟨oc18, od18, .func (PySem.W.fnOf "_law_words" "_law_words" (defArgs sPool) (defBody sPool) (defScope sPool) .none kV18 dc18 pm18 an18 cd18 ct18), sl18⟩)
    (c18 : PySem.W.codeIn K cd18 "_law_words" = true)
    (k18 : PySem.W.keepIn K (.ref f18) = true)
    (a19 : PySem.W.nsIn K mainGlobals "_law_place" = some (some (.ref f19)))
    (l19 : K.lookup f19 = some ⟨oc19, od19, .func (PySem.W.fnOf "_law_place" "_law_place" (defArgs sPlaceOf) (defBody sPlaceOf) (defScope sPlaceOf) .none kV19 dc19 pm19 an19 cd19 ct19), sl19⟩)
    (c19 : PySem.W.codeIn K cd19 "_law_place" = true)
    (k19 : PySem.W.keepIn K (.ref f19) = true)
    (a20 : PySem.W.nsIn K mainGlobals "_law_told" = some (some (.ref f20)))
    (l20 : K.lookup f20 = some ⟨oc20, od20, .func (PySem.W.fnOf "_law_told" "_law_told" (defArgs sTold) (defBody sTold) (defScope sTold) .none kV20 dc20 pm20 an20 cd20 ct20), sl20⟩)
    (c20 : PySem.W.codeIn K cd20 "_law_told" = true)
    (k20 : PySem.W.keepIn K (.ref f20) = true)
    (a21 : PySem.W.nsIn K mainGlobals "_law_rules" = some (some (.ref f21)))
    (l21 : K.lookup f21 = some ⟨oc21, od21, .func (PySem.W.fnOf "_law_rules" "_law_rules" (defArgs sRulesOf) (defBody sRulesOf) (defScope sRulesOf) .none kV21 dc21 pm21 an21 cd21 ct21), sl21⟩)
    (c21 : PySem.W.codeIn K cd21 "_law_rules" = true)
    (k21 : PySem.W.keepIn K (.ref f21) = true)
    (a22 : PySem.W.nsIn K mainGlobals "_law_answer" = some (some (.ref f22)))
    (l22 : K.lookup f22 = some ⟨oc22, od22, .func (PySem.W.fnOf "_law_answer" "_law_answer" (defArgs sLA) (defBody sLA) (defScope sLA) .none kV22 dc22 pm22 an22 cd22 ct22), sl22⟩)
    (c22 : PySem.W.codeIn K cd22 "_law_answer" = true)
    (k22 : PySem.W.keepIn K (.ref f22) = true)
    (a23 : PySem.W.nsIn K mainGlobals "_law_corners" = some (some (.ref f23)))
    (l23 : K.lookup f23 = some ⟨oc23, od23, .func (PySem.W.fnOf "_law_corners" "_law_corners" (defArgs sCor) (defBody sCor) (defScope sCor) .none kV23 dc23 pm23 an23 cd23 ct23), sl23⟩)
    (c23 : PySem.W.codeIn K cd23 "_law_corners" = true)
    (k23 : PySem.W.keepIn K (.ref f23) = true)
    (a24 : PySem.W.nsIn K mainGlobals "_law_is_round" = some (some (.ref f24)))
    (l24 : K.lookup f24 = some ⟨oc24, od24, .func (PySem.W.fnOf "_law_is_round" "_law_is_round" (defArgs sLR) (defBody sLR) (defScope sLR) .none kV24 dc24 pm24 an24 cd24 ct24), sl24⟩)
    (c24 : PySem.W.codeIn K cd24 "_law_is_round" = true)
    (k24 : PySem.W.keepIn K (.ref f24) = true)
    (a25 : PySem.W.nsIn K mainGlobals "_law_drawn_walk" = some (some (.ref f25)))
    (l25 : K.lookup f25 = some ⟨oc25, od25, .func (PySem.W.fnOf "_law_drawn_walk" "_law_drawn_walk" (defArgs sDW) (defBody sDW) (defScope sDW) .none kV25 dc25 pm25 an25 cd25 ct25), sl25⟩)
    (c25 : PySem.W.codeIn K cd25 "_law_drawn_walk" = true)
    (k25 : PySem.W.keepIn K (.ref f25) = true)
    (a26 : PySem.W.nsIn K mainGlobals "_law_odd" = some (some (.ref f26)))
    (l26 : K.lookup f26 = some ⟨oc26, od26, .func (PySem.W.fnOf "_law_odd" "_law_odd" (defArgs sOD) (defBody sOD) (defScope sOD) .none kV26 dc26 pm26 an26 cd26 ct26), sl26⟩)
    (c26 : PySem.W.codeIn K cd26 "_law_odd" = true)
    (k26 : PySem.W.keepIn K (.ref f26) = true)
    (a27 : PySem.W.nsIn K mainGlobals "_law_bools_right" = some (some (.ref f27)))
    (l27 : K.lookup f27 = some ⟨oc27, od27, .func (PySem.W.fnOf "_law_bools_right" "_law_bools_right" (defArgs sBR) (defBody sBR) (defScope sBR) .none kV27 dc27 pm27 an27 cd27 ct27), sl27⟩)
    (c27 : PySem.W.codeIn K cd27 "_law_bools_right" = true)
    (k27 : PySem.W.keepIn K (.ref f27) = true)
    (a28 : PySem.W.nsIn K mainGlobals "law" = some (some (.ref f28)))
    (l28 : K.lookup f28 = some ⟨oc28, od28, .func (PySem.W.fnOf "law" "law" (defArgs sLaw) (defBody sLaw) (defScope sLaw) .none kV28 dc28 pm28 an28 cd28 ct28), sl28⟩)
    (c28 : PySem.W.codeIn K cd28 "law" = true)
    (k28 : PySem.W.keepIn K (.ref f28) = true)
    (z1 : PySem.W.nsIn K mainGlobals "isinstance" = some none)
    (z2 : PySem.W.nsIn K mainGlobals "int" = some none)
    (z3 : PySem.W.nsIn K mainGlobals "bool" = some none)
    (z4 : PySem.W.nsIn K mainGlobals "str" = some none)
    (z5 : PySem.W.nsIn K mainGlobals "tuple" = some none)
    (z6 : PySem.W.nsIn K mainGlobals "list" = some none)
    (z7 : PySem.W.nsIn K mainGlobals "len" = some none)
    (z8 : PySem.W.nsIn K mainGlobals "range" = some none)
    (z9 : PySem.W.nsIn K mainGlobals "repr" = some none)
    (z10 : PySem.W.nsIn K mainGlobals "max" = some none)
    (z11 : PySem.W.nsIn K mainGlobals "min" = some none)
    (z12 : PySem.W.nsIn K mainGlobals "sorted" = some none)
    (z13 : PySem.W.nsIn K mainGlobals "reversed" = some none)
    {t1 : Tok}
    (g1 : PySem.W.nsIn K mainGlobals "WORD_LETTERS" = some (some (.int 12 t1)))
    {t2 : Tok}
    (g2 : PySem.W.nsIn K mainGlobals "PLACE_WORDS" = some (some (.int 4 t2)))
    {t3 : Tok}
    (g3 : PySem.W.nsIn K mainGlobals "MOST_DAYS" = some (some (.int 10000 t3)))
    {t4 : Tok}
    (g4 : PySem.W.nsIn K mainGlobals "MOST_RULES" = some (some (.int 40 t4)))
    (d1 : PySem.W.nsIn K mainGlobals "OWN_KINDS" = some (some (.ref kd)))
    (d2 : K.lookup kd = some ⟨.type "dict", none, .dict #[⟨h1, .str "exact" t1', .str "page" u1⟩, ⟨h2, .str "open" t2', .str "section" u2⟩] kn, #[]⟩)
    (d3 : h1 = PyData.keyHash w.params "exact")
    (d4 : h2 = PyData.keyHash w.params "open")
    (d5 : (kd == sysModules) = false)
    (kn1 : PySem.W.specialIn K (.builtin "object.__class__") "__get__" = some (some (.builtin "getset_descriptor.__get__")))
    (kt1 : PySem.W.takesIn K (.builtin "object.__class__") = some true)
    (tb1 : PySem.W.nsIn K mainGlobals "Table" = some (some (.ref CT)))
    (tb2 : PySem.W.makesIn K CT = true)
    (tb3 : PySem.W.findIn K (.ref CT) "__init__" = some (some (.ref fT)))
    (tb4 : PySem.W.isFn K (.ref fT) = true)
    (tb5 : PySem.W.keepIn K (.ref CT) = true)
    (tb6 : K.lookup fT = some ⟨ocT, odT, .func (PySem.W.fnOf "__init__" "Table.__init__" (defArgs sInit) (defBody sInit) (defScope sInit) (.ref dT) kVT dcT pmT anT cdT ctT), slT⟩)
    (tb7 : PySem.W.codeIn K cdT "Table.__init__" = true)
    (tb8 : PySem.W.keepIn K (.ref fT) = true)
    (tb9 : K.lookup dT = some ⟨dtc, dtd, .seq #[.ref eT] dn, dts⟩)
    (te : K.lookup eT = some ⟨.type "tuple", edd, .seq #[] edn, eds⟩)
    (y1 : PySem.W.plainGet K CT Str.empty = true)
    (y2 : PySem.W.hasDictIn K CT = true)
    (y3 : PySem.W.plainOver K CT = true)
    (y4 : PySem.W.findIn K (.ref CT) "__setattr__" = some (some (.builtin "object.__setattr__")))
    (y5 : PySem.W.findIn K (.ref CT) "_rules" = some none)
    (y6 : PySem.W.findIn K (.ref CT) "_found" = some none)
    (y6b : PySem.W.findIn K (.ref CT) "_longest" = some none)
    (y7 : PySem.W.findIn K (.ref CT) "__class__" = some (some (.builtin "object.__class__")))
    (y8 : PySem.W.mroIn K CT (.type "object") = some true)
    (y9 : PySem.W.subIn K (.ref CT) (.ref CT) = some true)
    (y10 : PySem.W.isClsIn K CT = true)
    (y11 : PySem.W.typeIn K (.ref CT) = some (.type "type"))
    (y12 : PySem.W.findIn K (.ref CT) "__ne__" = some (some (.builtin "object.__ne__")))
    (y13 : PySem.W.subIn K (.ref CT) (.type "object") = some true)
    (r1 : PySem.W.findIn K (.ref CT) "rules" = some (some (.ref pR)))
    (r2 : PySem.W.specialIn K (.ref pR) "__get__" = some (some (.builtin "property.__get__")))
    (r3 : PySem.W.takesIn K (.ref pR) = some true)
    (r4 : PySem.W.recIn K pR "property" = some (.ref qR :: rr))
    (sR : PySem.W.isFn K (.ref qR) = true)
    (xR : K.lookup qR = some ⟨ocRm, odRm, .func (PySem.W.fnOf "rules" "Table.rules" (defArgs sRules) (defBody sRules) (defScope sRules) .none kVRm dcRm pmRm anRm cdRm ctRm), slRm⟩)
    (vR : PySem.W.codeIn K cdRm "Table.rules" = true)
    (wR : PySem.W.keepIn K (.ref qR) = true)
    (nE : PySem.W.findIn K (.ref CT) "__eq__" = some (some (.ref qE)))
    (sE : PySem.W.isFn K (.ref qE) = true)
    (xE : K.lookup qE = some ⟨ocEm, odEm, .func (PySem.W.fnOf "__eq__" "Table.__eq__" (defArgs sEq) (defBody sEq) (defScope sEq) .none kVEm dcEm pmEm anEm cdEm ctEm), slEm⟩)
    (vE : PySem.W.codeIn K cdEm "Table.__eq__" = true)
    (wE : PySem.W.keepIn K (.ref qE) = true)
    : ∃ fd : FuncData, (∀ (s : Shared) (v : Value), BindsTo s fd ⟨[v], []⟩ [("_law_script", v)]) ∧ ∀ base : Heap, K.In base → base.Ns mainGlobals mg → FnG l.prog w K mg base 10 fa fd ["_law_script"] (spLaw K) := by
  have e := hfa.symm.trans (PySem.W.mg_of X G a28)
  cases e
  have F1 := fun_mk (st := sNum) l1 c1 k1
  have b1 := F1.binds (ps := ["value", "highest"]) fun _ _ _ _ _ _ us hl => match us, hl with | [_, _], _ => rfl
  have m1 := PySem.W.mg_of X G a1
  have F2 := fun_mk (st := sWord) l2 c2 k2
  have b2 := F2.binds (ps := ["value"]) fun _ _ _ _ _ _ us hl => match us, hl with | [_], _ => rfl
  have m2 := PySem.W.mg_of X G a2
  have F3 := fun_mk (st := sAddr) l3 c3 k3
  have b3 := F3.binds (ps := ["value"]) fun _ _ _ _ _ _ us hl => match us, hl with | [_], _ => rfl
  have m3 := PySem.W.mg_of X G a3
  have F4 := fun_mk (st := sPlace) l4 c4 k4
  have b4 := F4.binds (ps := ["value"]) fun _ _ _ _ _ _ us hl => match us, hl with | [_], _ => rfl
  have m4 := PySem.W.mg_of X G a4
  have F5 := fun_mk (st := sRule) l5 c5 k5
  have b5 := F5.binds (ps := ["value"]) fun _ _ _ _ _ _ us hl => match us, hl with | [_], _ => rfl
  have m5 := PySem.W.mg_of X G a5
  have F6 := fun_mk (st := sAnswer) l6 c6 k6
  have b6 := F6.binds (ps := ["value", "own_kind"]) fun _ _ _ _ _ _ us hl => match us, hl with | [_, _], _ => rfl
  have m6 := PySem.W.mg_of X G a6
  have F7 := fun_mk (st := sBegins) l7 c7 k7
  have b7 := F7.binds (ps := ["address", "beginning"]) fun _ _ _ _ _ _ us hl => match us, hl with | [_, _], _ => rfl
  have m7 := PySem.W.mg_of X G a7
  have F8 := fun_mk (st := sKey) l8 c8 k8
  have b8 := F8.binds (ps := ["address"]) fun _ _ _ _ _ _ us hl => match us, hl with | [_], _ => rfl
  have m8 := PySem.W.mg_of X G a8
  have F9 := fun_mk (st := sBegs) l9 c9 k9
  have b9 := F9.binds (ps := ["address"]) fun _ _ _ _ _ _ us hl => match us, hl with | [_], _ => rfl
  have m9 := PySem.W.mg_of X G a9
  have F10 := fun_mk (st := sRK) l10 c10 k10
  have b10 := F10.binds (ps := ["rule"]) fun _ _ _ _ _ _ us hl => match us, hl with | [_], _ => rfl
  have m10 := PySem.W.mg_of X G a10
  have F11 := fun_mk (st := sJF) l11 c11 k11
  have b11 := F11.binds (ps := ["tables"]) fun _ _ _ _ _ _ us hl => match us, hl with | [_], _ => rfl
  have m11 := PySem.W.mg_of X G a11
  have F12 := fun_mk (st := sRound) l12 c12 k12
  have b12 := F12.binds (ps := ["value", "walk", "tables"]) fun _ _ _ _ _ _ us hl => match us, hl with | [_, _, _], _ => rfl
  have m12 := PySem.W.mg_of X G a12
  have F13 := fun_mk (st := sRep) l13 c13 k13
  have b13 := F13.binds (ps := ["part", "size", "places"]) fun _ _ _ _ _ _ us hl => match us, hl with | [_, _, _], _ => rfl
  have m13 := PySem.W.mg_of X G a13
  have F14 := fun_mk (st := sStream) l14 c14 k14
  have b14 := F14.binds (ps := ["_law_script", "_law_start"]) fun _ _ _ _ _ _ us hl => match us, hl with | [_, _], _ => rfl
  have m14 := PySem.W.mg_of X G a14
  have F15 := fun_mk (st := sDraw) l15 c15 k15
  have b15 := F15.binds (ps := ["_law_stream_here", "_law_size"]) fun _ _ _ _ _ _ us hl => match us, hl with | [_, _], _ => rfl
  have m15 := PySem.W.mg_of X G a15
  have F16 := fun_mk (st := sChoose) l16 c16 k16
  have b16 := F16.binds (ps := ["_law_stream_here", "_law_items"]) fun _ _ _ _ _ _ us hl => match us, hl with | [_, _], _ => rfl
  have m16 := PySem.W.mg_of X G a16
  have F17 := fun_mk (st := sShuf) l17 c17 k17
  have b17 := F17.binds (ps := ["_law_stream_here", "_law_items"]) fun _ _ _ _ _ _ us hl => match us, hl with | [_, _], _ => rfl
  have m17 := PySem.W.mg_of X G a17
  have F18 := fun_mk (st := sPool) l18 c18 k18
  have b18 := F18.binds (ps := ["_law_stream_here"]) fun _ _ _ _ _ _ us hl => match us, hl with | [_], _ => rfl
  have m18 := PySem.W.mg_of X G a18
  have F19 := fun_mk (st := sPlaceOf) l19 c19 k19
  have b19 := F19.binds (ps := ["_law_stream_here", "_law_words_here"]) fun _ _ _ _ _ _ us hl => match us, hl with | [_, _], _ => rfl
  have m19 := PySem.W.mg_of X G a19
  have F20 := fun_mk (st := sTold) l20 c20 k20
  have b20 := F20.binds (ps := ["_law_stream_here", "_law_words_here", "_law_sort"]) fun _ _ _ _ _ _ us hl => match us, hl with | [_, _, _], _ => rfl
  have m20 := PySem.W.mg_of X G a20
  have F21 := fun_mk (st := sRulesOf) l21 c21 k21
  have b21 := F21.binds (ps := ["_law_stream_here", "_law_words_here", "_law_most"]) fun _ _ _ _ _ _ us hl => match us, hl with | [_, _, _], _ => rfl
  have m21 := PySem.W.mg_of X G a21
  have F22 := fun_mk (st := sLA) l22 c22 k22
  have b22 := F22.binds (ps := ["_law_rules_here", "_law_address"]) fun _ _ _ _ _ _ us hl => match us, hl with | [_, _], _ => rfl
  have m22 := PySem.W.mg_of X G a22
  have F23 := fun_mk (st := sCor) l23 c23 k23
  have b23 := F23.binds (ps := ["_law_tables"]) fun _ _ _ _ _ _ us hl => match us, hl with | [_], _ => rfl
  have m23 := PySem.W.mg_of X G a23
  have F24 := fun_mk (st := sLR) l24 c24 k24
  have b24 := F24.binds (ps := ["_law_walk", "_law_places", "_law_size", "_law_corners_here"]) fun _ _ _ _ _ _ us hl => match us, hl with | [_, _, _, _], _ => rfl
  have m24 := PySem.W.mg_of X G a24
  have F25 := fun_mk (st := sDW) l25 c25 k25
  have b25 := F25.binds (ps := ["_law_stream_here", "_law_rules_here", "_law_words_here"]) fun _ _ _ _ _ _ us hl => match us, hl with | [_, _, _], _ => rfl
  have m25 := PySem.W.mg_of X G a25
  have F26 := fun_mk (st := sOD) l26 c26 k26
  have b26 := F26.binds (ps := ["_law_walk"]) fun _ _ _ _ _ _ us hl => match us, hl with | [_], _ => rfl
  have m26 := PySem.W.mg_of X G a26
  have F27 := fun_mk (st := sBR) l27 c27 k27
  have b27 := F27.binds (ps := ["_law_turn", "_law_walk", "_law_tables"]) fun _ _ _ _ _ _ us hl => match us, hl with | [_, _, _], _ => rfl
  have m27 := PySem.W.mg_of X G a27
  have F28 := fun_mk (st := sLaw) l28 c28 k28
  have MR := fun_mk (st := sRules) xR vR wR
  have BR := MR.binds (ps := ["self"]) fun _ _ _ _ _ _ us hl => match us, hl with | [_], _ => rfl
  have ME := fun_mk (st := sEq) xE vE wE
  have BE := ME.binds (ps := ["self", "other"]) fun _ _ _ _ _ _ us hl => match us, hl with | [_, _], _ => rfl
  have T : Tx mg := ⟨PySem.W.mg_none_of X G z1, PySem.W.mg_none_of X G z2, PySem.W.mg_none_of X G z3, PySem.W.mg_none_of X G z4, PySem.W.mg_none_of X G z5, PySem.W.mg_none_of X G z6, PySem.W.mg_none_of X G z7, PySem.W.mg_none_of X G z8, PySem.W.mg_none_of X G z9, PySem.W.mg_none_of X G z10, PySem.W.mg_none_of X G z11, ⟨_, PySem.W.mg_of X G g1⟩, ⟨_, PySem.W.mg_of X G g2⟩, ⟨_, PySem.W.mg_of X G g3⟩⟩
  have Y : Ty mg := ⟨PySem.W.mg_none_of X G z12, PySem.W.mg_none_of X G z13, ⟨_, PySem.W.mg_of X G g4⟩⟩
  have C : Tcl K CT := ⟨⟨y1, y2, y3, y4⟩, y5, y6, y6b⟩
  have gT := PySem.W.mg_of X G tb1
  refine ⟨PySem.W.fnOf "law" "law" (defArgs sLaw) (defBody sLaw) (defScope sLaw) .none kV28 dc28 pm28 an28 cd28 ct28, fun s v => .of_eq rfl, fun base _ _ => ?_⟩
  have Kk : Kinds K w mg kd _ kn := ⟨PySem.W.mg_of X G d1, ⟨d2, ⟨⟨_, _, rfl, d3⟩, ⟨_, _, rfl, d4⟩, trivial⟩, d5⟩, ⟨_, _, _, _, _, _, rfl, rfl, rfl, rfl, rfl⟩⟩
  have dNum : Df l.prog w K mg base 1 "is_number_to" ["value", "highest"] (spNum K) := ⟨_, _, m1, k1, b1, ok_num F1 T⟩
  have dWord : Df l.prog w K mg base 1 "is_word" ["value"] (spWord K) := ⟨_, _, m2, k2, b2, ok_word F2 T⟩
  have dAddr : Df l.prog w K mg base 2 "is_address" ["value"] (spAddr K) := ⟨_, _, m3, k3, b3, ok_addr F3 T dWord⟩
  have dPlace : Df l.prog w K mg base 3 "is_place" ["value"] (spPlace K) := ⟨_, _, m4, k4, b4, ok_place F4 T dAddr⟩
  have dAns : Df l.prog w K mg base 4 "_is_answer" ["value", "own_kind"] (spAnswer K) := ⟨_, _, m6, k6, b6, ok_answer F6 T dNum dWord dPlace⟩
  have dRule : Df l.prog w K mg base 5 "is_rule" ["value"] (spRule K) := ⟨_, _, m5, k5, b5, ok_rule F5 T Kk dPlace dAns⟩
  have dBeg : Df l.prog w K mg base 1 "begins" ["address", "beginning"] (spBegins K) := ⟨_, _, m7, k7, b7, ok_begins F7 T⟩
  have dKey : Df l.prog w K mg base 1 "address_key" ["address"] (spKey K) := ⟨_, _, m8, k8, b8, ok_key F8 T⟩
  have dBegs : Df l.prog w K mg base 1 "beginnings" ["address"] (spBegs K) := ⟨_, _, m9, k9, b9, ok_begs F9 T⟩
  have dRK : Df l.prog w K mg base 2 "rule_key" ["rule"] (spRK K) := ⟨_, _, m10, k10, b10, ok_ruleKey F10 T dKey⟩
  have dStream : Df l.prog w K mg base 1 "_law_stream" ["_law_script", "_law_start"] (spStream K) := ⟨_, _, m14, k14, b14, ok_stream F14 T⟩
  have dDraw : Df l.prog w K mg base 1 "_law_draw" ["_law_stream_here", "_law_size"] spDraw := ⟨_, _, m15, k15, b15, ok_draw F15 T⟩
  have dOne : Df l.prog w K mg base 2 "_law_choose" ["_law_stream_here", "_law_items"] (spChoose K) := ⟨_, _, m16, k16, b16, ok_choose F16 T dDraw⟩
  have dShuf : Df l.prog w K mg base 2 "_law_shuffled" ["_law_stream_here", "_law_items"] (spShuf K) := ⟨_, _, m17, k17, b17, ok_shuf F17 T dDraw⟩
  have dWords : Df l.prog w K mg base 3 "_law_words" ["_law_stream_here"] spPool := ⟨_, _, m18, k18, b18, ok_pool F18 dDraw dShuf⟩
  have dPl : Df l.prog w K mg base 3 "_law_place" ["_law_stream_here", "_law_words_here"] (spPlaceOf K) := ⟨_, _, m19, k19, b19, ok_placeOf F19 T dOne⟩
  have dTo : Df l.prog w K mg base 4 "_law_told" ["_law_stream_here", "_law_words_here", "_law_sort"] (spTold K) := ⟨_, _, m20, k20, b20, ok_told F20 dDraw dOne dPl⟩
  have dRs : Df l.prog w K mg base 5 "_law_rules" ["_law_stream_here", "_law_words_here", "_law_most"] (spRulesOf l.prog w K) := ⟨_, _, m21, k21, b21, ok_rulesOf F21 T dDraw dOne dPl dTo⟩
  have dLA : Df l.prog w K mg base 1 "_law_answer" ["_law_rules_here", "_law_address"] (spLA K) := ⟨_, _, m22, k22, b22, ok_la F22 T⟩
  have dCor : Df l.prog w K mg base 1 "_law_corners" ["_law_tables"] (spCor l.prog w K) := ⟨_, _, m23, k23, b23, ok_cor F23 T⟩
  have dLR : Df l.prog w K mg base 1 "_law_is_round" ["_law_walk", "_law_places", "_law_size", "_law_corners_here"] (spLR l.prog w K) := ⟨_, _, m24, k24, b24, ok_lr F24 T⟩
  have dOD : Df l.prog w K mg base 1 "_law_odd" ["_law_walk"] (spOD K) := ⟨_, _, m26, k26, b26, ok_od F26 T⟩
  have dDW : Df l.prog w K mg base 4 "_law_drawn_walk" ["_law_stream_here", "_law_rules_here", "_law_words_here"] (spDW K) := ⟨_, _, m25, k25, b25, ok_dw F25 T dDraw dOne dPl dLA⟩
  have FT : FunD K "__init__" "Table.__init__" (defArgs sInit) (defBody sInit) (defScope sInit) [.ref eT] [] fT _ := ⟨⟨_, _, _, _, _, _, _, _, _, _, rfl, tb6, tb7, .inr ⟨by simp, dT, _, [.ref eT], dn, rfl, tb9, rfl, .cons rfl .nil⟩, .inl rfl⟩, tb8⟩
  obtain ⟨dsT, vT, bT⟩ := FT.binds1 (ps := ["self", "rules"]) 2 1 (by simp) rfl fun _ _ _ _ _ _ _ us its h1 h2 => match us, its, h1, h2 with | [_, _], [_], _, _ => ⟨_, rfl, rfl⟩
  cases vT
  have B : TmkB l.prog w K mg base CT := ⟨gT, fT, _, ⟨tb2, tb3, tb4, tb5⟩, bT, FnOk.both (ok_init FT T Y C dRule dRK) (ok_initT FT T Y C dRule dRK)⟩
  have I : C8.InsC K CT := ⟨⟨y1, y2, y3, y4⟩, y7, kn1, kt1, y8, kit_yes y9 y10 y11⟩
  have FR := ok_rules (P := l.prog) (w := w) (base := base) MR T C
  have PR : PropOf K CT "rules" pR qR := ⟨r1, r2, r3, ⟨_, r4⟩⟩
  have dJF : Df l.prog w K mg base 3 "joints_found" ["tables"] (spJFB l.prog w K CT) := ⟨_, _, m11, k11, b11, FnOk.both (ok_jf F11 T C PR BR FR dBegs) (ok_jfT F11 T C PR BR FR dBegs)⟩
  have dRep : Df l.prog w K mg base 2 "_can_be_repeated" ["part", "size", "places"] (spRep l.prog w K) := ⟨_, _, m13, k13, b13, ok_rep F13 T dBeg⟩
  have dRound : Df l.prog w K mg base 4 "is_round" ["value", "walk", "tables"] (spRoundB l.prog w K CT) := ⟨_, _, m12, k12, b12, FnOk.both (ok_round F12 T dNum dJF dRep) (ok_roundT F12 T dNum dJF dRep)⟩
  have dBR : Df l.prog w K mg base 5 "_law_bools_right" ["_law_turn", "_law_walk", "_law_tables"] (spBR l.prog w K CT) := ⟨_, _, m27, k27, b27, ok_br F27 T dRound⟩
  have D : Defs l.prog w K mg base CT := ⟨dStream, dDraw, dWords, dRs, dDW, dCor, dLR, dOD, dBR, dRound⟩
  exact ok_law F28 T B D ⟨qE, _, ⟨y12, y13, nE, sE⟩, BE, ok_eq ME T C I gT⟩
theorem walk {l : PySem.W.OpenLaw} {q : Program} {loose : List Str} {XP : (Str → Option Value) → Heap → Prop} {YP : World → Heap → Prop} {d : DefRec} {K : Params → PySem.W.Frag} (hn : l.most = some 63) (hdf : d.params.defaults = []) (hY : ∀ (w : World) (h : Heap), YP w h → (K w.params).In h)
    (F : ∀ (w : World) (mg : Str → Option Value) (fa : Addr) (h : Heap), (K w.params).In h → h.Ns mainGlobals mg → mg d.name = some (.ref fa) → ∃ fd : FuncData, (∀ (s : Shared) (u : Value), BindsTo s fd ⟨[u], []⟩ [("_law_script", u)]) ∧
      ∀ base : Heap, (K w.params).In base → base.Ns mainGlobals mg → FnG l.prog w (K w.params) mg base 10 fa fd ["_law_script"] (spLaw (K w.params))) : PySem.W.WalkO q loose XP YP l.row.toRowW d [] (fun f vs => PySem.call f vs) :=
  Ld.walk_G (n := 63) (k := 10) (x := "_law_script") (sp := fun w => spLaw (K w.params)) hn (by decide) hdf ⟨rfl, by decide, by decide⟩ hY F fun w H a ns h1 h2 h3 => ⟨a, ns, rfl, h3, h1, h2, fun _ => rfl⟩
end K28
open PySem PySem.W PyProof.Rows
set_option maxRecDepth 100000 in
set_option maxHeartbeats 0 in
theorem PySem.Challenge.cw_leadsever_k28_rounds_judged_holds : PySem.Challenge.rw_leadsever_k28_rounds_judged.Holds := by
  w_on; o_law; k_head; (case hw => w_witness2)
  k_fill
  refine K28.walk (l := PySem.Challenge.rw_leadsever_k28_rounds_judged) rfl rfl (fun w h Y => PySem.W.kIn_of Y) ?F
  case F =>
    intro w mg fa h KX G hmg
    refine' K28.all_mk KX G hmg ?a1 ?l1 ?c1 ?k1 ?a2 ?l2 ?c2 ?k2 ?a3 ?l3 ?c3 ?k3 ?a4 ?l4 ?c4 ?k4 ?a5 ?l5 ?c5 ?k5 ?a6 ?l6 ?c6 ?k6 ?a7 ?l7 ?c7 ?k7 ?a8 ?l8 ?c8 ?k8 ?a9 ?l9 ?c9 ?k9 ?a10 ?l10 ?c10 ?k10 ?a11 ?l11 ?c11 ?k11 ?a12 ?l12 ?c12 ?k12 ?a13 ?l13 ?c13 ?k13 ?a14 ?l14 ?c14 ?k14 ?a15 ?l15 ?c15 ?k15 ?a16 ?l16 ?c16 ?k16 ?a17 ?l17 ?c17 ?k17 ?a18 ?l18 ?c18 ?k18 ?a19 ?l19 ?c19 ?k19 ?a20 ?l20 ?c20 ?k20 ?a21 ?l21 ?c21 ?k21 ?a22 ?l22 ?c22 ?k22 ?a23 ?l23 ?c23 ?k23 ?a24 ?l24 ?c24 ?k24 ?a25 ?l25 ?c25 ?k25 ?a26 ?l26 ?c26 ?k26 ?a27 ?l27 ?c27 ?k27 ?a28 ?l28 ?c28 ?k28 ?z1 ?z2 ?z3 ?z4 ?z5 ?z6 ?z7 ?z8 ?z9 ?z10 ?z11 ?z12 ?z13 ?g1 ?g2 ?g3 ?g4 ?d1 ?d2 ?d3 ?d4 ?d5 ?kn1 ?kt1 ?tb1 ?tb2 ?tb3 ?tb4 ?tb5 ?tb6 ?tb7 ?tb8 ?tb9 ?te ?y1 ?y2 ?y3 ?y4 ?y5 ?y6 ?y6b ?y7 ?y8 ?y9 ?y10 ?y11 ?y12 ?y13 ?r1 ?r2 ?r3 ?r4 ?sR ?xR ?vR ?wR ?nE ?sE ?xE ?vE ?wE
    (case a1 => k_is)
    (case l1 => k_is)
    (case c1 => k_is)
    (case k1 => k_is)
    (case a2 => k_is)
    (case l2 => k_is)
    (case c2 => k_is)
    (case k2 => k_is)
    (case a3 => k_is)
    (case l3 => k_is)
    (case c3 => k_is)
    (case k3 => k_is)
    (case a4 => k_is)
    (case l4 => k_is)
    (case c4 => k_is)
    (case k4 => k_is)
    (case a5 => k_is)
    (case l5 => k_is)
    (case c5 => k_is)
    (case k5 => k_is)
    (case a6 => k_is)
    (case l6 => k_is)
    (case c6 => k_is)
    (case k6 => k_is)
    (case a7 => k_is)
    (case l7 => k_is)
    (case c7 => k_is)
    (case k7 => k_is)
    (case a8 => k_is)
    (case l8 => k_is)
    (case c8 => k_is)
    (case k8 => k_is)
    (case a9 => k_is)
    (case l9 => k_is)
    (case c9 => k_is)
    (case k9 => k_is)
    (case a10 => k_is)
    (case l10 => k_is)
    (case c10 => k_is)
    (case k10 => k_is)
    (case a11 => k_is)
    (case l11 => k_is)
    (case c11 => k_is)
    (case k11 => k_is)
    (case a12 => k_is)
    (case l12 => k_is)
    (case c12 => k_is)
    (case k12 => k_is)
    (case a13 => k_is)
    (case l13 => k_is)
    (case c13 => k_is)
    (case k13 => k_is)
    (case a14 => k_is)
    (case l14 => k_is)
    (case c14 => k_is)
    (case k14 => k_is)
    (case a15 => k_is)
    (case l15 => k_is)
    (case c15 => k_is)
    (case k15 => k_is)
    (case a16 => k_is)
    (case l16 => k_is)
    (case c16 => k_is)
    (case k16 => k_is)
    (case a17 => k_is)
    (case l17 => k_is)
    (case c17 => k_is)
    (case k17 => k_is)
    (case a18 => k_is)
    (case l18 => k_is)
    (case c18 => k_is)
    (case k18 => k_is)
    (case a19 => k_is)
    (case l19 => k_is)
    (case c19 => k_is)
    (case k19 => k_is)
    (case a20 => k_is)
    (case l20 => k_is)
    (case c20 => k_is)
    (case k20 => k_is)
    (case a21 => k_is)
    (case l21 => k_is)
    (case c21 => k_is)
    (case k21 => k_is)
    (case a22 => k_is)
    (case l22 => k_is)
    (case c22 => k_is)
    (case k22 => k_is)
    (case a23 => k_is)
    (case l23 => k_is)
    (case c23 => k_is)
    (case k23 => k_is)
    (case a24 => k_is)
    (case l24 => k_is)
    (case c24 => k_is)
    (case k24 => k_is)
    (case a25 => k_is)
    (case l25 => k_is)
    (case c25 => k_is)
    (case k25 => k_is)
    (case a26 => k_is)
    (case l26 => k_is)
    (case c26 => k_is)
    (case k26 => k_is)
    (case a27 => k_is)
    (case l27 => k_is)
    (case c27 => k_is)
    (case k27 => k_is)
    (case a28 => k_is)
    (case l28 => k_is)
    (case c28 => k_is)
    (case k28 => k_is)
    (case z1 => k_is)
    (case z2 => k_is)
    (case z3 => k_is)
    (case z4 => k_is)
    (case z5 => k_is)
    (case z6 => k_is)
    (case z7 => k_is)
    (case z8 => k_is)
    (case z9 => k_is)
    (case z10 => k_is)
    (case z11 => k_is)
    (case z12 => k_is)
    (case z13 => k_is)
    (case g1 => k_is)
    (case g2 => k_is)
    (case g3 => k_is)
    (case g4 => k_is)
    (case d1 => k_is)
    (case d2 => k_is)
    (case d3 => first | rfl | decide)
    (case d4 => first | rfl | decide)
    (case d5 => first | rfl | decide)
    (case kn1 => k_is)
    (case kt1 => k_is)
    (case tb1 => k_is)
    (case tb2 => k_is)
    (case tb3 => k_is)
    (case tb4 => k_is)
    (case tb5 => k_is)
    (case tb6 => k_is)
    (case tb7 => k_is)
    (case tb8 => k_is)
    (case tb9 => k_is)
    (case te => k_is)
    (case y1 => k_is)
    (case y2 => k_is)
    (case y3 => k_is)
    (case y4 => k_is)
    (case y5 => k_is)
    (case y6 => k_is)
    (case y6b => k_is)
    (case y7 => k_is)
    (case y8 => k_is)
    (case y9 => k_is)
    (case y10 => k_is)
    (case y11 => k_is)
    (case y12 => k_is)
    (case y13 => k_is)
    (case r1 => k_is)
    (case r2 => k_is)
    (case r3 => k_is)
    (case r4 => k_is)
    (case sR => k_is)
    (case xR => k_is)
    (case vR => k_is)
    (case wR => k_is)
    (case nE => k_is)
    (case sE => k_is)
    (case xE => k_is)
    (case vE => k_is)
    (case wE => k_is)
