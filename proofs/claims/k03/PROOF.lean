import PyProof.Rows.All
import Wide.All
import OpenK.AllK
import Wide.FinOn
import HandS.Base
import HandS.Call
import HandS.List
import HandS.Comp
import HandS.Ends
import HandS.Dict
import HandS.Iter
import HandS.Text
import HandS.Words
import HandS.WordsList
import PyProof.ReprRoads
import HandS.EndBits
import HandS.IsInst
import HandS.StrMore
import HandS.TupAny
import HandS.Conv
import PyProof.ReprLen
import PyProof.StrLawsRepr
import HandS.TupMul
import PyProof.StrLaws
import HandS.Exc
import HandS.ExcInit
import HandS.ExcField
import HandS.ExcIs
import HandS.MakeKwOnly
import HandS.SetKeys
import HandS.Strs
import KE.LtData
import PyProof.Rows.StrMul
import HandS.Style
import HandS.Zip
import HandS.Replace
import PySem.Challenge.RW_leadsever_k03_errors_and_names_of_argume
set_option Elab.async false
set_option linter.all false
set_option maxRecDepth 100000
set_option maxHeartbeats 8000000
/-! Own rules, for any of the laws of this package. -/
namespace Ld
open PySem L2 PyProof.Rows
/-! ### heaps: all stands but the well -/
/-- all that is tracked stays, but what is at wa -/
def Sb (wa : Addr) (H H' : Hp) : Prop := ∀ b o, b ≠ wa → H b = some o → H' b = some o
theorem Sb.refl (wa : Addr) (H : Hp) : Sb wa H H := fun _ _ _ e => e
theorem Sb.trans {wa : Addr} {H1 H2 H3 : Hp} (a : Sb wa H1 H2) (b : Sb wa H2 H3) : Sb wa H1 H3 := fun c o n e => b c o n (a c o n e)
theorem Sb.of {wa : Addr} {H H' : Hp} (s : Same H H') : Sb wa H H' := fun b o _ e => s b o e
theorem Sb.put (wa : Addr) (H : Hp) (o : HO) : Sb wa H (upd H wa o) := fun b u n e => by
  rw [upd_ne n]
  exact e
theorem Same.new {H : Hp} {p : Addr} {o : HO} (h : H p = none) : Same H (upd H p o) := fun b u e => by
  rw [upd_ne (ne_of_none e h)]
  exact e
/-- the well: its two numbers -/
def wellKv (d m : Int) : List (Key × V) := [(Sum.inr "digits", .int d), (Sum.inr "mixed", .int m)]
def Well (H : Hp) (wa : Addr) : Prop := ∃ d m : Int, H wa = some (.dK (wellKv d m)) ∧ 0 ≤ d ∧ 0 ≤ m ∧ m < 2 ^ 40
theorem Well.same {H H' : Hp} {wa : Addr} (W : Well H wa) (s : Same H H') : Well H' wa := by
  obtain ⟨d, m, h, r⟩ := W
  exact ⟨d, m, s _ _ h, r⟩
/-- what the well is not -/
def NotWell : HO → Prop
  | .dK kvs => kvs.length ≠ 2
  | _ => True
theorem Well.ne {H : Hp} {wa b : Addr} {o : HO} (W : Well H wa) (e : H b = some o) (n : NotWell o) : b ≠ wa := by
  obtain ⟨d, m, h, _⟩ := W
  intro z
  subst z
  rw [h] at e
  cases e
  exact n rfl
theorem Well.lst {H : Hp} {wa b : Addr} {xs : List V} (W : Well H wa) (e : H b = some (.lst xs)) : b ≠ wa := W.ne e trivial
section
variable {K : PySem.W.Frag} {H H' : Hp} {wa a : Addr} {xs : List V}
theorem rd_keep {u : HO} (W : Well H wa) (s : Sb wa H H') (n : NotWell u) (h : Rd H a u) : Rd H' a u := by
  rcases h with h | ⟨o, h⟩
  · exact .inl (s a _ (W.ne h n) h)
  · exact .inr ⟨o, s a _ (W.ne h trivial) h⟩
theorem seqL (W : Well H wa) (s : Sb wa H H') (h : SqL K H a xs) : SqL K H' a xs := by
  rcases h with h | h
  · exact .inl (rd_keep W s trivial h)
  · exact .inr h
theorem seqT (W : Well H wa) (s : Sb wa H H') (h : SqT K H a xs) : SqT K H' a xs := by
  rcases h with h | h
  · exact .inl (rd_keep W s trivial h)
  · exact .inr h
theorem same_T (s : Same H H') (h : SqT K H a xs) : SqT K H' a xs := by
  rcases h with (h | ⟨o, h⟩) | h
  · exact .inl (.inl (s _ _ h))
  · exact .inl (.inr ⟨o, s _ _ h⟩)
  · exact .inr h
end
/-! ### data that stays -/
section
variable {K : PySem.W.Frag} {H H' : Hp}
mutual
theorem dp_mono (hL : ∀ a xs, SqL K H a xs → SqL K H' a xs) (hT : ∀ a xs, SqT K H a xs → SqT K H' a xs) : ∀ (d : PyData) (v : V), Dp K H v d → Dp K H' v d
  | .none, _, h => by cases h; exact .non
  | .bool _, _, h => by cases h; exact .bl _
  | .int _, _, h => by cases h; exact .int _
  | .str _, _, h => by cases h; exact .str _
  | .list ds, _, h => by
    cases h with
    | lst a b => exact .lst (hL _ _ a) (dpAll_mono hL hT ds _ b)
  | .tuple ds, _, h => by
    cases h with
    | tup a b => exact .tup (hT _ _ a) (dpAll_mono hL hT ds _ b)
  | .dict _, _, h => by cases h
theorem dpAll_mono (hL : ∀ a xs, SqL K H a xs → SqL K H' a xs) (hT : ∀ a xs, SqT K H a xs → SqT K H' a xs) : ∀ (ds : List PyData) (vs : List V), DpAll K H vs ds → DpAll K H' vs ds
  | [], _, h => by cases h; exact .nil
  | d :: ds, _, h => by
    cases h with
    | cons a b => exact .cons (dp_mono hL hT d _ a) (dpAll_mono hL hT ds _ b)
end
theorem dp_same {v : V} {d : PyData} (s : Same H H') (h : Dp K H v d) : Dp K H' v d := dp_mono (fun _ _ q => s.seq q) (fun _ _ q => same_T s q) d v h
theorem dp_sb {wa : Addr} {v : V} {d : PyData} (W : Well H wa) (s : Sb wa H H') (h : Dp K H v d) : Dp K H' v d := dp_mono (fun _ _ q => seqL W s q) (fun _ _ q => seqT W s q) d v h
theorem dp_strs : ∀ ws : List Str, DpAll K H (ws.map V.str) (ws.map PyData.str)
  | [] => .nil
  | w :: ws => .cons (.str w) (dp_strs ws)
theorem dp_bools : ∀ ws : List Bool, DpAll K H (ws.map V.bl) (ws.map PyData.bool)
  | [] => .nil
  | w :: ws => .cons (.bl w) (dp_bools ws)
theorem dp_append : ∀ {vs ws : List V} {ds es : List PyData}, DpAll K H vs ds → DpAll K H ws es → DpAll K H (vs ++ ws) (ds ++ es)
  | [], _, _, _, .nil, h => h
  | _ :: _, _, _, _, .cons a b, h => .cons a (dp_append b h)
end
/-! ### numbers of any size that a script may give -/
section
variable {X : Cx}
def CMulB (i j : Int) : Prop := Builtin.Int.intBits i + Builtin.Int.intBits j ≤ 2 ^ 27
def CPowB (i j : Int) : Prop := 0 ≤ j ∧ (Builtin.Int.intBits i : Int) * j ≤ 2 ^ 27
theorem mulB_ok {i j : Int} (h : CMulB i j) : IntMulOk i j := by
  intro z
  have z2 := (Bool.and_eq_true_iff.mp z).2
  have z3 := of_decide_eq_true (show decide (((Builtin.Int.intBits i + Builtin.Int.intBits j : Nat) : Int) > bitsLine) = true from z2)
  have e : bitsLine = 2 ^ 27 := rfl
  rw [e] at z3
  have h' : Builtin.Int.intBits i + Builtin.Int.intBits j ≤ 2 ^ 27 := h
  omega
theorem op_mulB : OpR X (binaryOp .Mult) (rI CMulB fun i j => .int (i * j)) := opI fun i j t u s Q E hc q => mul_int q (mulB_ok hc)
theorem op_powB : OpR X (binaryOp .Pow) (rI CPowB fun i j => .int (i ^ j.toNat)) := opI fun i j t u s Q E hc q => pow_int hc.1 hc.2 q
theorem bits_of {i : Int} {n : Nat} (h : i.natAbs < 2 ^ n) : Builtin.Int.intBits i ≤ n := by
  unfold Builtin.Int.intBits
  split
  · exact Nat.zero_le _
  · rename_i hz
    have hz : ¬ i = 0 := fun e => hz (by rw [e]; rfl)
    have h0 : i.natAbs ≠ 0 := fun e => hz (Int.natAbs_eq_zero.mp e)
    have := (Nat.log2_lt h0).mpr h
    omega
theorem of_bits {i : Int} {n : Nat} (h : Builtin.Int.intBits i ≤ n) : i.natAbs < 2 ^ n := by
  unfold Builtin.Int.intBits at h
  by_cases hz : i = 0
  · subst hz
    exact Nat.two_pow_pos n
  · rw [if_neg (by simpa using hz)] at h
    exact (Nat.log2_lt (fun e => hz (Int.natAbs_eq_zero.mp e))).mp (by omega)
end
end Ld
/-! Defs that need to know that no repr runs around them. -/
namespace Ld
open PySem L2 PyProof.Rows
/-- the promise of a def, wherever no repr runs around -/
structure FnG (P : Program) (w : World) (K : PySem.W.Frag) (mg : Str → Option Value) (base : Heap) (k : Nat) (f : Addr) (fd : FuncData) (ps : List Str) (sp : Sp) : Prop where
  long : ∀ vs H Q E, sp vs H Q E → vs.length = ps.length
  goes : ∀ (A : Around) (outer : List Env) (s : Shared) (H : Hp) (args : Args) (us : List Value) (vs : List V) (Q : VK) (E : XK), A.guards = some [] → Room k A → Env0 P w K mg base A outer s H →
    BindsTo s fd args (ps.zip us) → Vals vs us → sp vs H Q E → codeAny (model P w) A (.call (.ref f) args) (CR CX0 outer P w H s Q E) s
section
variable {P : Program} {w : World} {K : PySem.W.Frag} {mg : Str → Option Value} {base : Heap} {k : Nat} {f : Addr} {fd : FuncData} {ps : List Str} {sp : Sp}
theorem FnG.of (F : FnOk P w K mg base CX0 k f fd ps sp) : FnG P w K mg base k f fd ps sp := ⟨F.len, fun A outer s H args us vs Q E _ => F.run A outer s H args us vs Q E⟩
/-- what a body leaves is what the call leaves -/
theorem ends_of {X : Cx} {pins : List (Addr × Obj)} {s' : Shared} {Q : VK} (hx : X.ex = []) {σ' : L2.St} {H' : Hp} {v : V} {u : Value} (J : Inv X pins σ' H' s') (r : RelV v u) (q : Q v H') :
    CE X.outer X.prog X.w X.H_0 X.s_0 Q u s' := by
  have b := J.base
  rw [hx] at b
  exact ⟨v, H', J.os, J.bare, b, J.hok, r, q⟩
/-- a def of the text by its body -/
theorem Fun.okG {x qual : Str} {st : Stmt} {N : List Str} (F : Fun K x qual st f fd) (S : FnScope N ps (defScope st)) (long : ∀ vs H Q E, sp vs H Q E → vs.length = ps.length)
    (body : ∀ (cdv : Value) (A : Around) (outer : List Env) (s : Shared) (H : Hp) (vs : List V) (Q : VK) (E : XK), A.guards = some [] → Room k (A.deeper (envOfC qual (defScope st) s.heap.objs.size f cdv)) → sp vs H Q E →
      ∃ t, PSs (cxOf CX0 P w K mg base N qual (defScope st) f cdv A outer s H E).nox (defBody st) t ∧ t { nx := fun _ H' => Q .non H', rt := Q } (start N vs) H) : FnG P w K mg base (k + 1) f fd ps sp := by
  obtain ⟨oc, od, kV, doc, pm, an, cdv, ct, osl, rfl, lk, hcd⟩ := F.ex
  refine ⟨long, fun A outer s H args us vs Q E hg hr e0 hb r hsp => ?_⟩
  have up : ∀ b o, base.get? b = some o → s.heap.get? b = some o := fun b o e => (e0.bs b o e).1
  have KX : K.In s.heap := e0.mod.kin.keeps up
  have kinds : ∀ y ∈ ps.zip us, (defScope st).names.lookup y.1 = some .local ∨ ((defScope st).names.lookup y.1 = some .cell ∧ ((cellsFrom (s.heap.objs.size + 1) (defScope st).names []).lookup y.1).isSome = true) := by
    rintro ⟨n, v⟩ hy
    rcases S.par n (List.of_mem_zip hy).1 with q | q
    · exact Or.inl q
    · exact Or.inr ⟨q, PySem.W.cellsFrom_some _ _ _ (Or.inl q)⟩
  refine codeAny_call_function hr.depth (KX _ _ lk) rfl S.co S.gen rfl (PySem.W.codeRec_of KX hcd) (hb _ _ _ _ ?_)
  refine wpAny_newFunctionEnv_cells S.kind kinds fun env he s1 x => ?_
  subst he
  refine ⟨(e0.mod.nolimit.keeps up).keeps x.toInCall.keep, codeAny_func ?_⟩
  obtain ⟨t, ht, hq⟩ := body cdv A outer s H vs Q E hg (hr.deeper _) hsp
  refine wpAny_mono (ht.nox.run [] s1 (start N vs) H _ (inv_start S hr.hd e0 (long _ _ _ _ hsp) r x) hq) (fun fl s' hs => ?_) fun e s' hs => hs
  cases fl with
  | ret u =>
    obtain ⟨v, σ', H', J, r, q⟩ := hs
    exact ends_of rfl J r q
  | next =>
    obtain ⟨σ', H', J, q⟩ := hs
    exact ends_of (v := .non) rfl J rfl q
  | brk =>
    obtain ⟨_, _, _, q⟩ := hs
    exact q.elim
  | cont =>
    obtain ⟨_, _, _, q⟩ := hs
    exact q.elim
end
section
variable {X : Cx} {k : Nat} {f : Addr} {fd : FuncData} {ps : List Str} {sp : Sp} {x : Str} {p pos : Pos} {e : Expr} {es : List Expr} {t : TA}
/-- f(e, ..) of such a def -/
theorem pe_callG (F : FnG X.prog X.w X.K X.mg X.base k f fd ps sp) (hG : X.A.guards = some []) (hr : Room k X.A) (hg : Gl X x) (hm : X.mg x = some (.ref f)) (hk : PySem.W.keepIn X.K (.ref f) = true) (hb : Binds X.K fd ps [])
    (ha : PA X (e :: es) t) (hdb : (x == ("__debug__" : Str)) = false := by decide) (he : starEach (e :: es) X.env = (false, eval e X.env) :: starEach es X.env := by rfl)
    (hpl : (backTo pos (starEach es X.env)).any (·.1) = false := by rfl) : PE X (.Call (.Name x p) (e :: es) [] pos) (tCall sp [] E0 t) := by
  refine ⟨fun pins s σ H Q I h => wpAny_Call_Name_kw (ld_glob I hg hm ?_ hdb)⟩
  refine PySem.W.callWith_K (h₀ := X.base) I.ok.mod.kin hk (thn (ha.run pos pins s σ H _ I h) fun us s1 ⟨vs, H1, I1, r, q⟩ => ⟨I1.kIn, ?_⟩) he hpl
  have q : sp (vs ++ []) H1 Q E0 := q
  rw [List.append_nil] at q
  have hl : us.length = ps.length := by
    rw [← r.length]
    exact F.long _ _ _ _ q
  have hb1 := hb s1 us I1.kIn (by rw [List.append_nil]; exact hl)
  rw [List.append_nil] at hb1
  refine wpAny_call (codeAny_mono (F.goes X.A X.stack s1 H1 ⟨us, []⟩ us vs Q E0 hG hr I1.env0 hb1 r q) fun z s2 hq => ?_)
  match z, hq with
  | .ok (.ret u), hq => exact I1.after hq
  | .ok .next, hq => exact False.elim hq
  | .ok .brk, hq => exact False.elim hq
  | .ok .cont, hq => exact False.elim hq
  | .error e, hq => exact False.elim hq
/-- repr of data -/
def Rds (K : PySem.W.Frag) (P : Program) (w : World) (H : Hp) (v : V) (d : PyData) : Prop := ∀ h : Heap, HOk P w H h → K.In h → ∀ u, RelV v u → ∃ as, Reads h u d as ∧ (d.hasDict = true → ¬ sysModules ∈ as)
def Small (d : PyData) : Prop := d.showable = true ∧ d.depth ≤ 40 ∧ d.shown.length ≤ sizeLine
theorem call_repr (hG : X.A.guards = some []) (hu : X.A.units + 64 < cLine) : CallR X (.builtin "repr") (fun xs H Q => ∃ v d, xs = [v] ∧ Rds X.K X.prog X.w H v d ∧ Small d ∧ Q (.str d.shown) H) := by
  intro pins s σ H xs us Q I r h
  obtain ⟨v, d, rfl, hR, ⟨h1, h2, h3⟩, q⟩ := h
  obtain ⟨u, rfl, ru⟩ := vals1 r
  obtain ⟨as, rd, hs⟩ := hR s.heap I.hok I.kIn u ru
  have fin : ∀ h' t tk, (∀ b o, s.heap.get? b = some o → h'.get? b = some o) → EP X pins σ Q (.str d.shown t) { s with heap := h', toks := tk } := fun h' t tk kp =>
    ⟨.str d.shown, H, I.kept kp, ⟨t, rfl⟩, q⟩
  cases v with
  | ref a =>
    cases ru
    exact repr_of_reads' rd h1 hs hG (by omega) (fun _ _ e => e) fin h3
  | non =>
    cases ru
    cases rd
    simp only [PyData.shown] at fin
    exact P.repr_of_none (fin s.heap _ _ fun _ _ e => e)
  | bl b =>
    cases ru
    cases rd
    simp only [PyData.shown] at fin
    exact P.repr_of_bool (fin s.heap _ _ fun _ _ e => e)
  | int i =>
    obtain ⟨t, rfl⟩ := ru
    cases rd
    simp only [PyData.shown] at fin
    exact P.repr_of_int (by simpa [PyData.showable] using h1) (fin s.heap _ _ fun _ _ e => e)
  | str x =>
    obtain ⟨t, rfl⟩ := ru
    cases rd
    simp only [PyData.shown] at fin h3
    exact P.repr_of_str (fin s.heap _ _ fun _ _ e => e) h3
  | byt b =>
    obtain ⟨t, rfl⟩ := ru
    cases rd
  | flt b =>
    obtain ⟨t, rfl⟩ := ru
    cases rd
  | ty n =>
    cases ru
    cases rd
end
end Ld
/-! The end of a law whose defs are of the kind FnG; the script's bits are told. -/
namespace Ld
open PySem L2 PyProof.Rows
section
variable {P : Program} {w : World} {K : PySem.W.Frag} {mg mb : Str → Option Value} {k : Nat} {fa a : Addr} {fd : FuncData} {x : Str} {sp : Sp} {s : Shared} {vs : List Value} {ns : List Int}
/-- what stands behind the law's call -/
def Behind (s : Shared) (r : Result) (s' : Shared) : Prop := r = .ok (.ret (.bool true)) ∧ OldK s.heap s'.heap ∧ s'.os = s.os ∧ AllBare s'.gens
/-- with nothing tracked but (perhaps) the script, locked -/
structure Quiet (P : Program) (w : World) (K : PySem.W.Frag) (a : Addr) (H : Hp) (s : Shared) : Prop where
  ok : HOk P w H s.heap
  one : ∀ b o, H b = some o → b = a ∧ K.lookup a = none ∧ ∃ ob xs, o = .frz ob (.lst xs) ∧ ∃ its n, ob.data = .seq its n
theorem law_goes {H : Hp} (KX : K.In s.heap) (hns : s.heap.Ns mainGlobals mg) (hb : s.heap.Ns builtinsNs mb) (hbb : ∀ x : Str, x ≠ "__name__" → mb x = bootBuiltins x) (hlim : s.heap.NoLimit) (hg : s.gens = #[])
    (q : Quiet P w K a H s) (hr : Room k callerA) (F : ∀ base : Heap, K.In base → base.Ns mainGlobals mg → FnG P w K mg base k fa fd [x] sp) (hbind : ∀ (s : Shared) (u : Value), BindsTo s fd ⟨[u], []⟩ [(x, u)])
    (hsp : sp [.ref a] H (fun v _ => v = .bl true) E0) : codeAny (model P w) callerA (.call (.ref fa) ⟨[.ref a], []⟩) (Behind s) s := by
  have free : ∀ {b : Addr} {o : Obj}, s.heap.get? b = some o → (∀ its n, o.data ≠ .seq its n) → H b = none := fun {b o} e d => by
    cases z : H b with
    | none => rfl
    | some u =>
      obtain ⟨rfl, _, ob, xs, rfl, its, n, hd⟩ := q.one b u z
      obtain ⟨e2, _⟩ := q.ok b _ z
      rw [e] at e2
      cases e2
      exact absurd hd (d its n)
  have nsb : ∀ {b : Addr} {m : Str → Option Value}, s.heap.Ns b m → (hidT s.heap H).Ns b m := fun {b m} ⟨o, es, ep, e, d, r⟩ =>
    ⟨o, es, ep, hidT_get e (free e fun its n z => by rw [d] at z; cases z), d, r⟩
  have Kb : K.In (hidT s.heap H) := fun b o e => hidT_get (KX b o e) (by
    cases z : H b with
    | none => rfl
    | some u =>
      obtain ⟨rfl, hk, _⟩ := q.one b u z
      rw [hk] at e
      cases e)
  have md : Mod K mg (hidT s.heap H) := ⟨Kb, nsb hns, ⟨mb, nsb hb, hbb⟩, let ⟨mc, h1, h2⟩ := hlim; ⟨mc, nsb h1, h2⟩⟩
  have none_in : ∀ b : Addr, ¬ b ∈ ([] : List Addr) := fun b z => nomatch z
  have e0 : Env0 P w K mg (hidT s.heap H) callerA [] s H := ⟨rfl, md, fun b o e => of_hidT e, Nat.le_of_eq (hidT_size _ _), trivial, fun b hb => absurd hb (none_in b), q.ok, .of_eq hg⟩
  refine codeAny_mono ((F _ Kb (nsb hns)).goes callerA [] s H ⟨[.ref a], []⟩ [.ref a] [.ref a] _ E0 rfl hr e0 (hbind s (.ref a)) (.cons rfl .nil) hsp) fun r s' h => ?_
  match r, h with
  | .error e, h => exact False.elim h
  | .ok .next, h => exact False.elim h
  | .ok .brk, h => exact False.elim h
  | .ok .cont, h => exact False.elim h
  | .ok (.ret u), h =>
    obtain ⟨v, H', os, bare, un, ok', rv, (rfl : v = .bl true)⟩ := h
    cases (show u = Value.bool true from rv)
    refine ⟨rfl, OldK.of_keep fun b o e => ?_, os, bare⟩
    cases z : H b with
    | none => exact un.keep b o e z (none_in b) (none_in b)
    | some u =>
      obtain ⟨_, _, ob, xs, rfl, _⟩ := q.one b u z
      obtain ⟨e1, _⟩ := q.ok b _ z
      obtain ⟨e2, _⟩ := ok' b _ (un.frzs b ob _ z)
      rw [e] at e1
      cases e1
      exact e2
theorem ints_vals : ∀ {vs : List Value} {ns : List Int}, IntsAre vs ns → Vals (ns.map V.int) vs
  | _, _, .nil => .nil
  | _, _, .cons n t h => .cons ⟨t, rfl⟩ (ints_vals h)
theorem law_goes_any (KX : K.In s.heap) (hns : s.heap.Ns mainGlobals mg) (hb : s.heap.Ns builtinsNs mb) (hbb : ∀ x : Str, x ≠ "__name__" → mb x = bootBuiltins x) (hlim : s.heap.NoLimit) (hg : s.gens = #[])
    (ha : s.heap.get? a = some { cls := .type "list", data := .seq vs.toArray }) (hi : IntsAre vs ns) (hl : ns.length ≤ sizeLine) (hr : Room k callerA)
    (F : ∀ base : Heap, K.In base → base.Ns mainGlobals mg → FnG P w K mg base k fa fd [x] sp) (hbind : ∀ (s : Shared) (u : Value), BindsTo s fd ⟨[u], []⟩ [(x, u)])
    (hsp : ∀ H : Hp, SqL K H a (ns.map V.int) → sp [.ref a] H (fun v _ => v = .bl true) E0) : codeAny (model P w) callerA (.call (.ref fa) ⟨[.ref a], []⟩) (Behind s) s := by
  have rv := ints_vals hi
  cases hk : K.lookup a with
  | some o =>
    have e := KX a o hk
    rw [ha] at e
    cases e
    have sq : SqL K (fun _ => none) a (ns.map V.int) := .inr ⟨_, vs.toArray, _, hk, rfl, rfl, rfl, by rw [List.size_toArray, hi.length]; exact hl, by simpa using rv⟩
    refine law_goes KX hns hb hbb hlim hg ⟨fun b u z => ?_, fun b u z => ?_⟩ hr F hbind (hsp _ sq)
    · exact absurd (show (none : Option HO) = some u from z) (by simp)
    · exact absurd (show (none : Option HO) = some u from z) (by simp)
  | none =>
    have get : ∀ b u, (fun b => if b = a then some (HO.frz { cls := .type "list", data := .seq vs.toArray } (.lst (ns.map V.int))) else none : Hp) b = some u → b = a ∧ u = .frz { cls := .type "list", data := .seq vs.toArray } (.lst (ns.map V.int)) := fun b u z => by
      have z : (if b = a then some (HO.frz { cls := .type "list", data := .seq vs.toArray } (.lst (ns.map V.int))) else none) = some u := z
      by_cases h : b = a
      · rw [if_pos h] at z
        exact ⟨h, (Option.some.inj z).symm⟩
      · rw [if_neg h] at z
        cases z
    refine law_goes (H := fun b => if b = a then some (.frz { cls := .type "list", data := .seq vs.toArray } (.lst (ns.map V.int))) else none) KX hns hb hbb hlim hg ⟨fun b u z => ?_, fun b u z => ?_⟩ hr F hbind (hsp _ (.inl (.inr ⟨_, if_pos rfl⟩)))
    · obtain ⟨rfl, rfl⟩ := get b u z
      exact ⟨ha, by rw [List.length_map]; exact hl, vs, _, rv, ha⟩
    · obtain ⟨rfl, rfl⟩ := get b u z
      exact ⟨rfl, hk, _, _, rfl, _, _, rfl⟩
end
/-- what k_head leaves open -/
theorem walk_G {l : PySem.W.OpenLaw} {n k : Nat} {q : Program} {loose : List Str} {XP : (Str → Option Value) → Heap → Prop} {YP : World → Heap → Prop} {d : DefRec} {K : Params → PySem.W.Frag} {sp : World → Sp} {x : Str}
    (hn : l.most = some n) (hn2 : n ≤ sizeLine) (hdf : d.params.defaults = []) (hr : Room k callerA) (hY : ∀ (w : World) (h : Heap), YP w h → (K w.params).In h)
    (F : ∀ (w : World) (mg : Str → Option Value) (fa : Addr) (h : Heap), (K w.params).In h → h.Ns mainGlobals mg → mg d.name = some (.ref fa) → ∃ fd : FuncData, (∀ (s : Shared) (u : Value), BindsTo s fd ⟨[u], []⟩ [(x, u)]) ∧
      ∀ base : Heap, (K w.params).In base → base.Ns mainGlobals mg → FnG l.prog w (K w.params) mg base k fa fd [x] (sp w))
    (hsp : ∀ (w : World) (H : Hp) (a : Addr) (ns : List Int), ns.length ≤ n → (∀ z ∈ ns, Builtin.Int.intBits z ≤ 1048576) → SqL (K w.params) H a (ns.map V.int) → sp w [.ref a] H (fun v _ => v = .bl true) E0) :
    PySem.W.WalkO q loose XP YP l.row.toRowW d [] (fun f vs => PySem.call f vs) := by
  refine Att.attach_callB hn hdf fun w s₀ s₁ mg mb fa o pm cd doc a vs ns G Y ho hd hcd hmg hobj hints hlen hbits hg => ?_
  have KX := hY w _ Y
  obtain ⟨fd, hb, hF⟩ := F w mg fa _ KX G.T.g hmg
  exact law_goes_any KX G.T.g G.T.b G.T.builtins G.T.nolimit hg hobj hints (Nat.le_trans hlen hn2) hr hF hb fun H hS => hsp w H a ns hlen hbits hS
end Ld
/-! Things that a law draws: data, with a small dict at most. -/
namespace Ld
open PySem L2 PyProof.Rows
/-- data without a dict, or a dict of at most one text -/
inductive Lf (K : PySem.W.Frag) (H : Hp) : V → PyData → Prop
  | dat {v : V} {d : PyData} : Dp K H v d → Lf K H v d
  | dct0 {a : Addr} : H a = some (.dK []) → Lf K H (.ref a) (.dict [])
  | dct1 {a : Addr} {x y : Str} : H a = some (.dK [(Sum.inr x, .str y)]) → Lf K H (.ref a) (.dict [(.str x, .str y)])
/-- such a one, or a tuple of words with such a one among them -/
inductive Th (K : PySem.W.Frag) (H : Hp) : V → PyData → Prop
  | lf {v : V} {d : PyData} : Lf K H v d → Th K H v d
  | tup {a : Addr} {ws us : List Str} {v : V} {d : PyData} : SqT K H a (ws.map V.str ++ v :: us.map V.str) → Lf K H v d → Th K H (.ref a) (.tuple (ws.map PyData.str ++ d :: us.map PyData.str))
section
variable {K : PySem.W.Frag} {H H' : Hp} {v : V} {d : PyData} {wa : Addr}
theorem Lf.same (s : Same H H') (h : Lf K H v d) : Lf K H' v d := by
  cases h with
  | dat h => exact .dat (dp_same s h)
  | dct0 h => exact .dct0 (s _ _ h)
  | dct1 h => exact .dct1 (s _ _ h)
theorem Th.same (s : Same H H') (h : Th K H v d) : Th K H' v d := by
  cases h with
  | lf h => exact .lf (h.same s)
  | tup a h => exact .tup (same_T s a) (h.same s)
theorem Lf.sb (W : Well H wa) (s : Sb wa H H') (h : Lf K H v d) : Lf K H' v d := by
  cases h with
  | dat h => exact .dat (dp_sb W s h)
  | dct0 h => exact .dct0 (s _ _ (W.ne h (by show (0 : Nat) ≠ 2; decide)) h)
  | dct1 h => exact .dct1 (s _ _ (W.ne h (by show (1 : Nat) ≠ 2; decide)) h)
theorem Th.sb (W : Well H wa) (s : Sb wa H H') (h : Th K H v d) : Th K H' v d := by
  cases h with
  | lf h => exact .lf (h.sb W s)
  | tup a h => exact .tup (seqT W s a) (h.sb W s)
end
/-! ### what repr needs of it -/
mutual
theorem dp_nodict {K : PySem.W.Frag} {H : Hp} : ∀ (d : PyData) (v : V), Dp K H v d → d.hasDict = false
  | .none, _, _ => rfl
  | .bool _, _, _ => rfl
  | .int _, _, _ => rfl
  | .str _, _, _ => rfl
  | .list ds, _, h => by
    cases h with
    | lst a b => simpa [PyData.hasDict] using dpAll_nodict ds _ b
  | .tuple ds, _, h => by
    cases h with
    | tup a b => simpa [PyData.hasDict] using dpAll_nodict ds _ b
  | .dict _, _, h => by cases h
theorem dpAll_nodict {K : PySem.W.Frag} {H : Hp} : ∀ (ds : List PyData) (vs : List V), DpAll K H vs ds → PyData.hasDictAll ds = false
  | [], _, _ => rfl
  | d :: ds, _, h => by
    cases h with
    | cons a b => simp [PyData.hasDictAll, dp_nodict d _ a, dpAll_nodict ds _ b]
end
section
variable {K : PySem.W.Frag} {P : Program} {w : World} {H : Hp} {h : Heap}
mutual
theorem dp_reads (ok : HOk P w H h) (kin : K.In h) : ∀ (d : PyData) (v : V) (u : Value), Dp K H v d → RelV v u → ∃ as, Reads h u d as
  | .none, _, _, z, r => by cases z; cases r; exact ⟨_, .none⟩
  | .bool b, _, _, z, r => by cases z; cases r; exact ⟨_, .bool b⟩
  | .int i, _, _, z, r => by cases z; obtain ⟨t, rfl⟩ := r; exact ⟨_, .int i t⟩
  | .str x, _, _, z, r => by cases z; obtain ⟨t, rfl⟩ := r; exact ⟨_, .str x t⟩
  | .list ds, _, _, z, r => by
    cases z with
    | lst hs ha =>
      cases r
      rcases hs with hs | ⟨o, its, n, hk, hc, hd, hs, hz, rv⟩
      · obtain ⟨z, its, n, rv, e⟩ := hs.ok ok
        obtain ⟨as, hr⟩ := dpAll_reads ok kin ds _ its ha rv
        exact ⟨_, .list e rfl rfl hr⟩
      · obtain ⟨as, hr⟩ := dpAll_reads ok kin ds _ its.toList ha rv
        exact ⟨_, .list (kin _ o hk) hc hs hr⟩
  | .tuple ds, _, _, z, r => by
    cases z with
    | tup hs ha =>
      cases r
      rcases hs with hs | ⟨o, its, n, hk, hc, hs, hz, rv⟩
      · obtain ⟨z, its, rv, o, e, c, n, dt⟩ := hs.ok ok
        obtain ⟨as, hr⟩ := dpAll_reads ok kin ds _ its ha rv
        exact ⟨_, .tuple e c dt hr⟩
      · obtain ⟨as, hr⟩ := dpAll_reads ok kin ds _ its.toList ha rv
        exact ⟨_, .tuple (kin _ o hk) hc hs hr⟩
  | .dict _, _, _, z, _ => by cases z
theorem dpAll_reads (ok : HOk P w H h) (kin : K.In h) : ∀ (ds : List PyData) (vs : List V) (us : List Value), DpAll K H vs ds → Vals vs us → ∃ as, ReadsAll h us ds as
  | [], _, _, z, r => by cases z; cases r; exact ⟨_, .nil⟩
  | d :: ds, _, _, z, r => by
    cases z with
    | cons h1 h2 =>
      cases r with
      | cons r1 r2 =>
        obtain ⟨as, q1⟩ := dp_reads ok kin d _ _ h1 r1
        obtain ⟨bs, q2⟩ := dpAll_reads ok kin ds _ _ h2 r2
        exact ⟨_, .cons q1 q2⟩
end
theorem reads_strs : ∀ (ws : List Str) (us : List Value), Vals (ws.map V.str) us → ReadsAll h us (ws.map PyData.str) []
  | [], _, r => by cases r; exact .nil
  | w :: ws, _, r => by
    cases r with
    | cons r1 r2 =>
      obtain ⟨t, rfl⟩ := r1
      exact .cons (as := []) (bs := []) (.str w t) (reads_strs ws _ r2)
theorem readsAll_append : ∀ {us vs : List Value} {ds es : List PyData} {as bs : List Addr}, ReadsAll h us ds as → ReadsAll h vs es bs → ReadsAll h (us ++ vs) (ds ++ es) (as ++ bs)
  | _, _, _, _, _, _, .nil, r => r
  | _, _, _, _, _, bs, .cons (as := as) (bs := cs) a b, r => by
    rw [List.append_assoc]
    exact .cons a (readsAll_append b r)
theorem Lf.rds {v : V} {d : PyData} (z : Lf K H v d) : Rds K P w H v d := fun h ok kin u r => by
  cases z with
  | dat z =>
    obtain ⟨as, q⟩ := dp_reads ok kin d v u z r
    exact ⟨as, q, fun e => by rw [dp_nodict d v z] at e; cases e⟩
  | @dct0 a z =>
    cases r
    obtain ⟨_, hm, vs, kv, o, es, ep, e1, e2, e3, _, e4, _⟩ := dk_of ok z
    cases kv
    have e5 : es.toList = [] := by
      cases hh : es.toList with
      | nil => rfl
      | cons x y => rw [hh] at e4; cases e4
    refine ⟨_, .dict (kvs := []) (as := []) (bs := []) e1 e2.1 e3 (by rw [e5]; exact .nil) (by rw [e5]; exact .nil), fun _ hin => ?_⟩
    rcases List.mem_cons.mp hin with q | q
    · rw [← q] at hm
      exact absurd hm (by decide)
    · cases q
  | @dct1 a x y z =>
    cases r
    obtain ⟨_, hm, vs, kv, o, es, ep, e1, e2, e3, _, e4, _⟩ := dk_of ok z
    cases kv with
    | @cons _ kv1 _ _ q kv2 =>
      cases kv2
      obtain ⟨q1, q2⟩ := q
      obtain ⟨k1, v1⟩ := kv1
      cases q1
      obtain ⟨t, (rfl : v1 = _)⟩ := q2
      cases hh : es.toList with
      | nil => rw [hh] at e4; cases e4
      | cons x1 x2 =>
        rw [hh] at e4
        cases e4 with
        | cons g1 g2 g3 =>
          cases g3
          have g4 : ∃ t', x1.key = .str x t' := by
            rcases keyIs_shape (show keyIs (.inr x) x1.key = true from g1) with ⟨i, t', z1, _⟩ | ⟨y', t', z1, z2⟩
            · cases z1
            · cases z1
              exact ⟨t', z2⟩
          obtain ⟨t', g4⟩ := g4
          refine ⟨_, .dict (kvs := [(.str x, .str y)]) (as := []) (bs := []) e1 e2.1 e3 ?_ ?_, fun _ hin => ?_⟩
          · rw [hh]
            show ReadsAll h [x1.key] [PyData.str x] []
            rw [g4]
            exact .cons (as := []) (bs := []) (.str x t') .nil
          · rw [hh]
            show ReadsAll h [x1.val] [PyData.str y] []
            rw [g2]
            exact .cons (as := []) (bs := []) (.str y t) .nil
          · rcases List.mem_cons.mp hin with q | q
            · rw [← q] at hm
              exact absurd hm (by decide)
            · cases q
theorem reads_cut (ws us : List Str) {v : V} {l : List Value} (r : Vals (ws.map V.str ++ v :: us.map V.str) l) : ∃ l1 u l2, l = l1 ++ u :: l2 ∧ Vals (ws.map V.str) l1 ∧ RelV v u ∧ Vals (us.map V.str) l2 := by
  induction ws generalizing l with
  | nil =>
    cases r with
    | cons r1 r2 => exact ⟨[], _, _, rfl, .nil, r1, r2⟩
  | cons w ws ih =>
    cases r with
    | cons r1 r2 =>
      obtain ⟨l1, u, l2, e, a, b, c⟩ := ih r2
      exact ⟨_ :: l1, u, l2, by rw [e]; rfl, .cons r1 a, b, c⟩
theorem hasDict_strs : ∀ ws : List Str, PyData.hasDictAll (ws.map PyData.str) = false
  | [] => rfl
  | w :: ws => by simp [PyData.hasDictAll, PyData.hasDict, hasDict_strs ws]
theorem hasDict_append : ∀ ds es : List PyData, PyData.hasDictAll (ds ++ es) = (PyData.hasDictAll ds || PyData.hasDictAll es)
  | [], es => by simp [PyData.hasDictAll]
  | d :: ds, es => by
    rw [List.cons_append]
    simp only [PyData.hasDictAll, hasDict_append ds es, Bool.or_assoc]
theorem Th.rds {v : V} {d : PyData} (z : Th K H v d) : Rds K P w H v d := fun h ok kin u r => by
  cases z with
  | lf z => exact z.rds h ok kin u r
  | @tup a ws us v d ha hv =>
    cases r
    have core : ∀ l, Vals (ws.map V.str ++ v :: us.map V.str) l → ∃ as, ReadsAll h l (ws.map PyData.str ++ d :: us.map PyData.str) as ∧ (d.hasDict = true → ¬ sysModules ∈ as) := fun l rl => by
      obtain ⟨l1, u, l2, rfl, r1, r2, r3⟩ := reads_cut ws us rl
      obtain ⟨as, q1, q2⟩ := hv.rds (P := P) (w := w) h ok kin u r2
      refine ⟨[] ++ (as ++ []), readsAll_append (reads_strs ws l1 r1) (.cons q1 (reads_strs us l2 r3)), ?_⟩
      simpa using q2
    have hd : (PyData.tuple (ws.map PyData.str ++ d :: us.map PyData.str)).hasDict = d.hasDict := by
      show PyData.hasDictAll (ws.map PyData.str ++ d :: us.map PyData.str) = _
      rw [hasDict_append, hasDict_strs]
      simp [PyData.hasDictAll, hasDict_strs]
    rcases ha with hs | ⟨o, its, n, hk, hc, hs, hz, rv⟩
    · obtain ⟨z, its, rv, o, e, c, n, dt⟩ := hs.ok ok
      obtain ⟨as, q1, q2⟩ := core its rv
      exact ⟨as, .tuple e c dt q1, by rw [hd]; exact q2⟩
    · obtain ⟨as, q1, q2⟩ := core its.toList rv
      exact ⟨as, .tuple (kin _ o hk) hc hs q1, by rw [hd]; exact q2⟩
end
/-! ### its kind -/
def kindOf : PyData → String
  | .none => "NoneType"
  | .bool _ => "bool"
  | .int _ => "int"
  | .str _ => "str"
  | .list _ => "list"
  | .tuple _ => "tuple"
  | .dict _ => "dict"
section
variable {K : PySem.W.Frag} {H : Hp} {v : V} {d : PyData}
theorem Dp.ty (z : Dp K H v d) : TyX K H v (.type (kindOf d)) := by
  cases z with
  | non => exact .base .non
  | bl b => exact .base (.bl b)
  | int i => exact .base (.int i)
  | str x => exact .base (.str x)
  | lst hs _ =>
    rcases hs with (hs | ⟨o, hs⟩) | ⟨o, its, n, hk, hc, _⟩
    · exact .base (.lst hs)
    · exact .base (.frz hs)
    · exact .kList hk hc
  | tup hs _ =>
    rcases hs with (hs | ⟨o, hs⟩) | ⟨o, its, n, hk, hc, _⟩
    · exact .base (.tup hs)
    · exact .fTuple hs
    · exact .kTuple hk hc
theorem Lf.ty (z : Lf K H v d) : TyX K H v (.type (kindOf d)) := by
  cases z with
  | dat z => exact Dp.ty z
  | dct0 z => exact .base (.dK z)
  | dct1 z => exact .base (.dK z)
theorem Th.ty (z : Th K H v d) : TyX K H v (.type (kindOf d)) := by
  cases z with
  | lf z => exact z.ty
  | tup hs _ =>
    rcases hs with (hs | ⟨o, hs⟩) | ⟨o, its, n, hk, hc, _⟩
    · exact .base (.tup hs)
    · exact .fTuple hs
    · exact .kTuple hk hc
def isStrD : PyData → Bool
  | .str _ => true
  | _ => false
def isTupD : PyData → Bool
  | .tuple _ => true
  | _ => false
def isIntD : PyData → Bool
  | .int _ => true
  | .bool _ => true
  | _ => false
def isBoolD : PyData → Bool
  | .bool _ => true
  | _ => false
theorem kit_str (d : PyData) : PySem.W.kitOne K (.type (kindOf d)) (.type "str") = some (isStrD d) := by
  cases d <;> (simp only [kindOf, isStrD, isTupD, isIntD, isBoolD]; exact kit_ty (by decide +kernel))
theorem kit_tuple (d : PyData) : PySem.W.kitOne K (.type (kindOf d)) (.type "tuple") = some (isTupD d) := by
  cases d <;> (simp only [kindOf, isStrD, isTupD, isIntD, isBoolD]; exact kit_ty (by decide +kernel))
theorem kit_int (d : PyData) : PySem.W.kitOne K (.type (kindOf d)) (.type "int") = some (isIntD d) := by
  cases d <;> (simp only [kindOf, isStrD, isTupD, isIntD, isBoolD]; exact kit_ty (by decide +kernel))
theorem kit_bool (d : PyData) : PySem.W.kitOne K (.type (kindOf d)) (.type "bool") = some (isBoolD d) := by
  cases d <;> (simp only [kindOf, isStrD, isTupD, isIntD, isBoolD]; exact kit_ty (by decide +kernel))
/-- the items of a tuple, each with its data -/
def Its (K : PySem.W.Frag) (H : Hp) (xs : List V) (ds : List PyData) : Prop := xs.length = ds.length ∧ ∀ (i : Nat) (x : V), xs[i]? = some x → ∃ d, ds[i]? = some d ∧ Lf K H x d
theorem its_of : ∀ {xs : List V} {ds : List PyData}, DpAll K H xs ds → Its K H xs ds
  | _, _, .nil => ⟨rfl, fun i x e => by simp at e⟩
  | _, _, .cons a b => by
    obtain ⟨h1, h2⟩ := its_of b
    refine ⟨by simp [h1], fun i x e => ?_⟩
    cases i with
    | zero =>
      simp at e
      subst e
      exact ⟨_, rfl, .dat a⟩
    | succ i =>
      obtain ⟨d, q1, q2⟩ := h2 i x (by simpa using e)
      exact ⟨d, by simpa using q1, q2⟩
theorem Th.its {ds : List PyData} (z : Th K H v (.tuple ds)) : ∃ a xs, v = .ref a ∧ SqT K H a xs ∧ Its K H xs ds := by
  cases z with
  | lf z =>
    cases z with
    | dat z =>
      cases z with
      | tup hs ha => exact ⟨_, _, rfl, hs, its_of ha⟩
  | @tup a ws us v d ha hv =>
    refine ⟨_, _, rfl, ha, by simp, fun i x e => ?_⟩
    by_cases h1 : i < ws.length
    · rw [List.getElem?_append_left (by simpa using h1), List.getElem?_map] at e
      cases g : ws[i]? with
      | none => rw [g] at e; cases e
      | some y =>
        rw [g] at e
        cases e
        exact ⟨.str y, by rw [List.getElem?_append_left (by simpa using h1), List.getElem?_map, g]; rfl, .dat (.str y)⟩
    · rw [List.getElem?_append_right (by simpa using h1), List.length_map] at e
      cases h2 : i - ws.length with
      | zero =>
        rw [h2] at e
        cases e
        exact ⟨d, by rw [List.getElem?_append_right (by simpa using h1), List.length_map, h2]; rfl, hv⟩
      | succ j =>
        rw [h2] at e
        have e : (us.map V.str)[j]? = some x := by simpa using e
        rw [List.getElem?_map] at e
        cases g : us[j]? with
        | none => rw [g] at e; cases e
        | some y =>
          rw [g] at e
          cases e
          refine ⟨.str y, ?_, .dat (.str y)⟩
          rw [List.getElem?_append_right (by simpa using h1), List.length_map, h2]
          show (us.map PyData.str)[j]? = some (PyData.str y)
          rw [List.getElem?_map, g]
          rfl
end
end Ld
/-! Words, letter by letter. -/
namespace Ld
open PySem L2 PyProof.Rows
def low (c : Nat) : Bool := decide (97 ≤ c) && decide (c ≤ 122)
def lows (z : Str) : Bool := z.cps.toList.all low
def wordS (z : Str) : Bool := decide (1 ≤ z.length) && decide (z.length ≤ 12) && lows z
theorem sign_facts : ∀ c : Fin 128, (Unicode.isAlpha c.val && !(Unicode.isUpper c.val || Unicode.isTitle c.val)) = low c.val ∧ (low c.val = true → Unicode.isLower c.val = true) := by decide +kernel
theorem sign_fact {c : Nat} (h : c < 128) : (Unicode.isAlpha c && !(Unicode.isUpper c || Unicode.isTitle c)) = low c ∧ (low c = true → Unicode.isLower c = true) := sign_facts ⟨c, h⟩
theorem low_lt {c : Nat} (h : low c = true) : c < 128 := by
  simp only [low, Bool.and_eq_true, decide_eq_true_eq] at h
  omega
theorem arr_all (z : Str) (p : Nat → Bool) : z.cps.all p = z.cps.toList.all p := by simp
theorem arr_any (z : Str) (p : Nat → Bool) : z.cps.any p = z.cps.toList.any p := by simp
theorem lows_eq {z : Str} (h : 1 ≤ z.length) : (Txt.isascii z && (Txt.isalpha z && Txt.islower z)) = lows z := by
  unfold Txt.isascii Txt.isalpha Txt.islower lows
  rw [arr_all, arr_all, arr_any, arr_any]
  have hl : (decide (z.length > 0)) = true := decide_eq_true h
  have hl2 : z.cps.toList.length = z.length := by simp [Str.length]
  rw [hl, Bool.true_and]
  generalize z.cps.toList = l at hl2
  rw [Bool.eq_iff_iff]
  simp only [Bool.and_eq_true, List.all_eq_true, List.any_eq_true, Bool.not_eq_true', decide_eq_true_eq]
  constructor
  · rintro ⟨h1, h2, _, h4⟩ c hc
    have f := (sign_fact (h1 c hc)).1
    rw [← f, Bool.and_eq_true]
    refine ⟨h2 c hc, ?_⟩
    have h5 := List.any_eq_false.mp h4 c hc
    simpa using h5
  · intro hh
    have f : ∀ c ∈ l, c < 128 ∧ Unicode.isAlpha c = true ∧ (Unicode.isUpper c || Unicode.isTitle c) = false ∧ Unicode.isLower c = true := fun c hc => by
      have h0 := hh c hc
      have h1 := low_lt h0
      obtain ⟨f1, f2⟩ := sign_fact h1
      rw [h0, Bool.and_eq_true] at f1
      exact ⟨h1, f1.1, by simpa using f1.2, f2 h0⟩
    refine ⟨fun c hc => (f c hc).1, fun c hc => (f c hc).2.1, ?_, List.any_eq_false.mpr fun c hc => by rw [(f c hc).2.2.1]; simp⟩
    cases l with
    | nil =>
      simp at hl2
      omega
    | cons c r => exact ⟨c, List.mem_cons_self, (f c List.mem_cons_self).2.2.2⟩
theorem one_lt (a b : Nat) : decide (([a] : List Nat) < [b]) = decide (a < b) := by
  by_cases h : a < b
  · rw [decide_eq_true h, decide_eq_true]
    exact List.Lex.rel h
  · rw [decide_eq_false h, decide_eq_false]
    intro z
    cases z with
    | rel q => exact h q
    | cons q => cases q
/-- what the data says -/
def numD (hi : Int) : PyData → Bool
  | .int i => decide (0 ≤ i) && decide (i ≤ hi)
  | _ => false
def wordD : PyData → Bool
  | .str z => wordS z
  | _ => false
def addrD : PyData → Bool
  | .tuple ds => ds.all wordD
  | _ => false
/-- a short text of plain signs -/
def Asc (z : Str) : Prop := z.length ≤ 100 ∧ ∀ c ∈ z.cps.toList, c < 128
def FitS (d : PyData) : Prop := ∀ z, d = .str z → Asc z
def Fits (d : PyData) : Prop := FitS d ∧ ∀ ds, d = .tuple ds → ds.length ≤ 10000 ∧ ∀ e ∈ ds, FitS e
theorem Asc.size {z : Str} (h : Asc z) : z.length ≤ sizeLine := Nat.le_trans h.1 (by decide)
theorem FitS.of {d : PyData} (h : ∀ z, d ≠ .str z) : FitS d := fun z e => absurd e (h z)
end Ld
/-! Short rules. -/
namespace Ld
open PySem L2 PyProof.Rows
section
variable {X : Cx}
theorem PE.conv {e : Expr} {t t' : TE} (h : PE X e t') (c : ∀ σ H Q, t σ H Q → t' σ H Q) : PE X e t := ⟨fun pins s σ H Q I z => h.run pins s σ H Q I (c σ H Q z)⟩
theorem PT.conv {e : Expr} {t t' : TT} (h : PT X e t') (c : ∀ σ H Q, t σ H Q → t' σ H Q) : PT X e t := ⟨fun pins s σ H Q I z => h.run pins s σ H Q I (c σ H Q z)⟩
theorem OpR.conv {f : Value → Value → Sem Value} {r r' : R2} (h : OpR X f r') (c : ∀ x y H Q, r x y H Q → r' x y H Q) : OpR X f r := fun pins s σ H x y v u Q I rx ry z => h pins s σ H x y v u Q I rx ry (c x y H Q z)
theorem CallR.conv {f : Value} {r r' : List V → Hp → VK → Prop} (h : CallR X f r') (c : ∀ xs H Q, r xs H Q → r' xs H Q) : CallR X f r := fun pins s σ H xs us Q I r z => h pins s σ H xs us Q I r (c xs H Q z)
/-- isinstance(a, T) -/
def rIsa (K : PySem.W.Frag) (T : String) (x : V) (H : Hp) (Q : VK) : Prop := ∃ t b, TyX K H x t ∧ PySem.W.kitOne K t (.type T) = some b ∧ Q (.bl b) H
theorem call_isa (T : String) : CallR X (.builtin "isinstance") (fun xs H Q => ∃ x, xs = [x, .ty T] ∧ rIsa X.K T x H Q) := CallR.conv call_isi fun xs H Q ⟨x, e, t, b, h1, h2, q⟩ => ⟨x, .ty T, t, .type T, b, e, .ty T, h1, h2, q⟩
/-- t[lo:hi], whatever object it is -/
def rSlW (K : PySem.W.Frag) : V → Option Int → Option Int → Hp → VK → Prop := fun x lo hi H Q => ∃ a xs, x = .ref a ∧ SqT K H a xs ∧ ∀ r H', Same H H' → SqT K H' r (cutV xs lo hi) → Q (.ref r) H'
theorem cut_whole {xs : List V} {lo hi : Option Int} (h : HT.sIx xs.length 0 lo = 0 ∧ HT.sIx xs.length xs.length hi = xs.length) : cutV xs lo hi = xs := by
  unfold cutV
  rw [h.1, h.2, List.drop_zero, Nat.sub_zero, List.take_length]
theorem sl_tupW : SlR X (rSlW X.K) := by
  intro pins s σ H x v vl vu lo hi sl Q I rx hs pl pu h
  obtain ⟨a, xs, rfl, hx, q⟩ := h
  exact sl_tupA pins s σ H _ v vl vu lo hi sl Q I rx hs pl pu ⟨a, xs, rfl, hx, fun hw => q a H (Same.refl H) (by rw [cut_whole hw]; exact hx), fun _ p hp => q p _ (Same.new hp) (.of upd_same)⟩
/-- t + u, whatever object it is -/
def rCatW (K : PySem.W.Frag) : R2 := fun x y H Q => ∃ a b xs ys, x = .ref a ∧ y = .ref b ∧ SqT K H a xs ∧ SqT K H b ys ∧ xs.length + ys.length ≤ sizeLine ∧ ∀ r H', Same H H' → SqT K H' r (xs ++ ys) → Q (.ref r) H'
theorem op_catW : OpR X (binaryOp .Add) (rCatW X.K) := OpR.conv op_catA fun x y H Q ⟨a, b, xs, ys, e1, e2, h1, h2, hz, q⟩ => by
  refine ⟨a, b, xs, ys, e1, e2, h1, h2, hz, fun e => ?_, fun _ e => ?_, fun _ _ p hp => q p _ (Same.new hp) (.of upd_same)⟩
  · subst e
    exact q b H (Same.refl H) h2
  · subst e
    exact q a H (Same.refl H) (by rw [List.append_nil]; exact h1)
/-- a tuple displayed, a list displayed: what is said of them -/
theorem bootN : bootBuiltins "isinstance" = some (.builtin "isinstance") := by decide +kernel
end
end Ld
namespace Ld
open PySem L2 PyProof.Rows
/-- f(..) of a def without default values that lets nothing out -/
structure Df (P : Program) (w : World) (K : PySem.W.Frag) (mg : Str → Option Value) (base : Heap) (k : Nat) (x : Str) (ps : List Str) (sp : Sp) : Prop where
  ex : ∃ f fd, mg x = some (.ref f) ∧ PySem.W.keepIn K (.ref f) = true ∧ Binds K fd ps [] ∧ FnOk P w K mg base CX0 k f fd ps sp
structure DfG (P : Program) (w : World) (K : PySem.W.Frag) (mg : Str → Option Value) (base : Heap) (k : Nat) (x : Str) (ps : List Str) (sp : Sp) : Prop where
  ex : ∃ f fd, mg x = some (.ref f) ∧ PySem.W.keepIn K (.ref f) = true ∧ Binds K fd ps [] ∧ FnG P w K mg base k f fd ps sp
def tDf (sp : Sp) (t : TA) : TE := fun σ H Q => t σ H fun vs H1 => sp vs H1 Q E0
section
variable {X : Cx} {k : Nat} {ps : List Str} {sp : Sp} {x : Str} {p pos : Pos} {e : Expr} {es : List Expr} {t : TA}
theorem pe_df {j : Nat} (D : Df X.prog X.w X.K X.mg X.base k x ps sp) (hr : Room j X.A) (ha : PA X (e :: es) t) (hj : k ≤ j := by decide) (hg : Gl X x := by rfl) (hdb : (x == ("__debug__" : Str)) = false := by decide) (he : starEach (e :: es) X.env = (false, eval e X.env) :: starEach es X.env := by rfl)
    (hpl : (backTo pos (starEach es X.env)).any (·.1) = false := by rfl) : PE X (.Call (.Name x p) (e :: es) [] pos) (tDf sp t) := by
  obtain ⟨f, fd, h1, h2, h3, h4⟩ := D.ex
  have z := pe_call (pos := pos) (p := p) h4 (hr.mono hj) hg h1 h2 h3 .nil pass0 ha hdb he hpl
  have e : tCall sp [] E0 t = tDf sp t := by
    funext σ H Q
    unfold tCall tDf
    simp only [List.append_nil]
  rw [e] at z
  exact z
theorem pe_dfG {j : Nat} (D : DfG X.prog X.w X.K X.mg X.base k x ps sp) (hG : X.A.guards = some []) (hr : Room j X.A) (ha : PA X (e :: es) t) (hj : k ≤ j := by decide) (hg : Gl X x := by rfl) (hdb : (x == ("__debug__" : Str)) = false := by decide)
    (he : starEach (e :: es) X.env = (false, eval e X.env) :: starEach es X.env := by rfl) (hpl : (backTo pos (starEach es X.env)).any (·.1) = false := by rfl) : PE X (.Call (.Name x p) (e :: es) [] pos) (tDf sp t) := by
  obtain ⟨f, fd, h1, h2, h3, h4⟩ := D.ex
  have z := pe_callG (pos := pos) (p := p) h4 hG (hr.mono hj) hg h1 h2 h3 ha hdb he hpl
  have e : tCall sp [] E0 t = tDf sp t := by
    funext σ H Q
    unfold tCall tDf
    simp only [List.append_nil]
  rw [e] at z
  exact z
end
section
variable {K : PySem.W.Frag} {H : Hp} {v : V}
theorem Th.int_v {i : Int} (h : Th K H v (.int i)) : v = .int i := by
  cases h with
  | lf h => cases h with
    | dat h => cases h; rfl
theorem Th.str_v {z : Str} (h : Th K H v (.str z)) : v = .str z := by
  cases h with
  | lf h => cases h with
    | dat h => cases h; rfl
end
end Ld
namespace Ld
open PySem L2 PyProof.Rows
/-! ### over the signs of a text -/
theorem lc_str {x : Str} {g : TG} {tt : TT} {te : TE} {vs : List Nat} {σ : L2.St} {H1 : Hp} {D : Addr} {Qd : Hp → Prop} (Pv : Nat → Hp → Prop) (h0 : Pv 0 (upd H1 D (.lst [])))
    (hs : ∀ i c H, x.cps[i]? = some c → Pv i H → g (.str ⟨#[c]⟩) (wipe σ vs) H fun σ2 H2 => wipe σ2 vs = wipe σ vs ∧ tt σ2 H2 fun b H3 =>
      if b = true then te σ2 H3 fun y H4 => ∃ acc, H4 D = some (.lst acc) ∧ acc.length < sizeLine ∧ Pv (i + 1) (upd H4 D (.lst (acc ++ [y]))) else Pv (i + 1) H3) (hd : ∀ H, Pv x.cps.size H → Qd H) :
    ∃ W : Nat → Nat → Hp → Prop, (∃ m, W 0 m (upd H1 D (.lst []))) ∧ ∀ i m H, W i m H →
      ((L2.Its x).stop i H ∧ Qd H) ∨ ((L2.Its x).go i H ∧ ∃ Nx : Hp → Prop, (∀ H', Nx H' → ∃ m', m' < m ∧ W (i + 1) m' H') ∧ ∀ v H', (L2.Its x).yld i H v H' → g v (wipe σ vs) H' fun σ2 H2 => wipe σ2 vs = wipe σ vs ∧ tt σ2 H2 fun b H3 =>
        if b = true then te σ2 H3 fun y H4 => ∃ acc, H4 D = some (.lst acc) ∧ acc.length < sizeLine ∧ Nx (upd H4 D (.lst (acc ++ [y]))) else Nx H3) := by
  refine ⟨fun i m H => m + i = x.cps.size ∧ Pv i H, ⟨x.cps.size, rfl, h0⟩, fun i m H ⟨e, p⟩ => ?_⟩
  by_cases hlt : i < x.cps.size
  · refine Or.inr ⟨hlt, Pv (i + 1), fun H' p' => ⟨m - 1, by omega, by omega, p'⟩, fun v H' y => ?_⟩
    obtain ⟨rfl, c, hc, rfl⟩ := y
    exact hs i c H' hc p
  · have e2 : i = x.cps.size := by omega
    subst e2
    exact Or.inl ⟨Nat.le_refl _, hd H p⟩
theorem for_str {x : Str} {g : TG} {tb : TS} {D : Ends} {σ : L2.St} {H : Hp} (Pv : Nat → L2.St → Hp → Prop) (h0 : Pv 0 σ H)
    (hs : ∀ i c σ H, x.cps[i]? = some c → Pv i σ H → g (.str ⟨#[c]⟩) σ H fun σ2 H2 => tb { D with nx := Pv (i + 1), ct := Pv (i + 1), bk := D.nx } σ2 H2) (hd : ∀ σ H, Pv x.cps.size σ H → D.nx σ H) :
    ∃ W : Nat → Nat → L2.St → Hp → Prop, (∃ m, W 0 m σ H) ∧ ∀ i m σ H, W i m σ H → ((L2.Its x).stop i H ∧ D.nx σ H) ∨ ((L2.Its x).go i H ∧ ∃ N : L2.St → Hp → Prop, (∀ σ' H', N σ' H' → ∃ m', m' < m ∧ W (i + 1) m' σ' H') ∧
      ∀ v H', (L2.Its x).yld i H v H' → g v σ H' fun σ2 H2 => tb { D with nx := N, ct := N, bk := D.nx } σ2 H2) := by
  refine ⟨fun i m σ H => m + i = x.cps.size ∧ Pv i σ H, ⟨x.cps.size, rfl, h0⟩, fun i m σ H ⟨e, p⟩ => ?_⟩
  by_cases hlt : i < x.cps.size
  · refine Or.inr ⟨hlt, Pv (i + 1), fun σ' H' p' => ⟨m - 1, by omega, by omega, p'⟩, fun v H' y => ?_⟩
    obtain ⟨rfl, c, hc, rfl⟩ := y
    exact hs i c σ H' hc p
  · have e2 : i = x.cps.size := by omega
    subst e2
    exact Or.inl ⟨Nat.le_refl _, hd σ H p⟩
/-! ### a list compared with the empty one -/
theorem eqv_nil_tuple (ds : List PyData) : PyData.eqv (.list ds) (.list []) = ds.isEmpty := by
  cases ds <;> rfl
end Ld
namespace Ld
open PySem L2 PyProof.Rows
/-- a list against an empty one, whatever is in it -/
def rEq0 : R2 := fun x y H Q => ∃ a b xs, x = .ref a ∧ y = .ref b ∧ H a = some (.lst xs) ∧ H b = some (.lst []) ∧ Q (.bl xs.isEmpty) H
theorem op_eq0 {X : Cx} (hu : X.A.units + 64 < cLine) : OpR X (compareOp .Eq) rEq0 := by
  intro pins s σ H x y v u Q I rx ry h
  obtain ⟨a, b, xs, rfl, rfl, ha, hb, q⟩ := h
  cases xs with
  | nil => exact op_eqD hu pins s σ H _ _ v u Q I rx ry ⟨.list [], .list [], .lst (.of ha) .nil, .lst (.of hb) .nil, by decide, by decide, q⟩
  | cons y ys =>
    cases rx
    cases ry
    obtain ⟨_, its, n, r, e1⟩ := (show ObjOk X.prog X.w H s.heap a (.lst (y :: ys)) from I.hok a _ ha)
    obtain ⟨_, its2, n2, r2, e2⟩ := (show ObjOk X.prog X.w H s.heap b (.lst []) from I.hok b _ hb)
    cases r2
    refine SeqAt.eq_list_lengthsAt (items := its.toArray) (items2 := ([] : List Value).toArray) ⟨_, e1, rfl, n, rfl⟩ ⟨_, e2, rfl, n2, rfl⟩ ?_ (by omega) ⟨.bl false, H, I, rfl, q⟩
    have := r.length
    simp at this
    simp
    cases its with
    | nil => simp at this
    | cons a b => simp
end Ld
/-! The well's two numbers, and numbers of a script squared. -/
namespace Ld
open PySem L2 PyProof.Rows
def kd : Key := Sum.inr (Str.ofString "digits")
def km : Key := Sum.inr (Str.ofString "mixed")
theorem keys_ne : ¬ (kd = km) := by decide +kernel
theorem keys_ne' : ¬ (km = kd) := fun e => keys_ne e.symm
theorem wellKv_eq (d m : Int) : wellKv d m = [(kd, V.int d), (km, V.int m)] := rfl
theorem well_dig (d m : Int) : valV (wellKv d m) kd = some (.int d) := by
  rw [wellKv_eq]
  exact valV_pos rfl
theorem well_mix (d m : Int) : valV (wellKv d m) km = some (.int m) := by
  rw [wellKv_eq]
  rw [valV_neg keys_ne]
  exact valV_pos rfl
theorem put_dig (d m x : Int) : putK (wellKv d m) kd (.int x) = wellKv x m := by
  unfold putK
  rw [valV_any, well_dig]
  show (if true = true then _ else _) = _
  rw [if_pos rfl]
  rw [wellKv_eq, wellKv_eq]
  show [if kd = kd then (kd, V.int x) else _, if km = kd then (km, V.int x) else (km, V.int m)] = _
  rw [if_pos rfl, if_neg keys_ne']
theorem put_mix (d m x : Int) : putK (wellKv d m) km (.int x) = wellKv d x := by
  unfold putK
  rw [valV_any, well_mix]
  show (if true = true then _ else _) = _
  rw [if_pos rfl]
  rw [wellKv_eq, wellKv_eq]
  show [if kd = km then (kd, V.int x) else (kd, V.int d), if km = km then (km, V.int x) else _] = _
  rw [if_neg keys_ne, if_pos rfl]
theorem merge_well (d m : Int) : mergeK [] [(kd, V.int d), (km, V.int m)] = wellKv d m := by
  show putK (putK [] kd (V.int d)) km (V.int m) = _
  rw [putK_new (kvs := []) _ rfl, List.nil_append, putK_new _ (by rw [valV_neg keys_ne]; rfl)]
  rfl
theorem sq_wide {m e : Int} {n : Nat} (h : e.natAbs < 2 ^ n) (hm : m.natAbs < 2 ^ 60) (hn : 60 ≤ n) : (m + e * e + 59).natAbs < 2 ^ (2 * n + 2) := by
  have h1 : (e * e).natAbs < 2 ^ (2 * n) := by
    rw [Int.natAbs_mul, Nat.two_mul, Nat.pow_add]
    exact Nat.mul_lt_mul'' h h
  have h2 : 2 ^ 60 ≤ 2 ^ (2 * n) := Nat.pow_le_pow_right (by decide) (by omega)
  have h3 : (2 : Nat) ^ (2 * n + 2) = 4 * 2 ^ (2 * n) := by
    rw [Nat.pow_add]
    omega
  rw [h3]
  generalize (2 : Nat) ^ (2 * n) = z at h1 h2
  generalize e * e = s at h1
  have h4 : (2 : Nat) ^ 60 = 1152921504606846976 := by decide
  omega
theorem mul_small {m c : Int} (h0 : 0 ≤ m) (h1 : m < 2 ^ 40) (c0 : 0 ≤ c) (c1 : c < 2 ^ 17) : (m * c).natAbs < 2 ^ 60 := by
  rw [Int.natAbs_mul]
  have a : m.natAbs < 2 ^ 40 := by omega
  have b : c.natAbs < 2 ^ 17 := by omega
  have := Nat.mul_lt_mul'' a b
  exact Nat.lt_of_lt_of_le this (by decide)
theorem bits_small {m : Int} (h0 : 0 ≤ m) (h1 : m < 2 ^ 40) : Builtin.Int.intBits m ≤ 40 := bits_of (by omega)
theorem list_get {ns : List Int} {i : Nat} {x : V} (h : (ns.map V.int)[i]? = some x) : ∃ z, ns[i]? = some z ∧ x = .int z := by
  rw [List.getElem?_map] at h
  cases e : ns[i]? with
  | none => rw [e] at h; cases h
  | some z =>
    rw [e] at h
    exact ⟨z, rfl, (Option.some.inj h).symm⟩
end Ld
/-! Small things: what is drawn is short. -/
namespace Ld
open PySem L2 PyProof.Rows
def ascB (z : Str) : Bool := decide (z.length ≤ 100) && z.cps.toList.all (fun c => decide (c < 128))
theorem asc_of {z : Str} (h : ascB z = true) : Asc z := by
  simp only [ascB, Bool.and_eq_true, decide_eq_true_eq, List.all_eq_true] at h
  exact h
/-- short enough to stand in something -/
structure Part (d : PyData) : Prop where
  fit : FitS d
  sh : d.showable = true
  dp : d.depth ≤ 20
  len : d.shown.length ≤ 2000
def partB (d : PyData) : Bool := (match d with | .str z => ascB z | _ => true) && d.showable && decide (d.depth ≤ 20) && decide (d.shown.length ≤ 2000)
theorem part_of {d : PyData} (h : partB d = true) : Part d := by
  simp only [partB, Bool.and_eq_true, decide_eq_true_eq] at h
  obtain ⟨⟨⟨h1, h2⟩, h3⟩, h4⟩ := h
  refine ⟨fun z e => ?_, h2, h3, h4⟩
  subst e
  exact asc_of h1
theorem part_str {z : Str} (h : Asc z) : Part (.str z) := by
  refine ⟨fun y e => by cases e; exact h, rfl, by show 0 ≤ 20; decide, ?_⟩
  have := PySem.StrLaws.reprText_len z fun c hc => Nat.lt_of_lt_of_le (h.2 c hc) (by decide)
  show (reprText z).length ≤ 2000
  have := h.1
  omega
theorem Part.small {d : PyData} (h : Part d) : Small d := ⟨h.sh, Nat.le_trans h.dp (by decide), Nat.le_trans h.len (by decide)⟩
theorem shows_all : ∀ {ds : List PyData}, (∀ d ∈ ds, Part d) → PyData.showableAll ds = true
  | [], _ => rfl
  | d :: ds, h => by
    simp only [PyData.showableAll, (h d List.mem_cons_self).sh, shows_all fun x hx => h x (List.mem_cons_of_mem _ hx), Bool.and_self]
theorem depth_all : ∀ {ds : List PyData}, (∀ d ∈ ds, Part d) → PyData.depthAll ds ≤ 20
  | [], _ => by show 0 ≤ 20; decide
  | d :: ds, h => by
    have h1 := (h d List.mem_cons_self).dp
    have h2 := depth_all fun x hx => h x (List.mem_cons_of_mem _ hx)
    simp only [PyData.depthAll]
    omega
theorem len_all : ∀ {ds : List PyData}, (∀ d ∈ ds, Part d) → ((PyData.shownAll ds).map (·.length)).sum ≤ 2000 * ds.length ∧ (PyData.shownAll ds).length = ds.length
  | [], _ => ⟨Nat.le_refl _, rfl⟩
  | d :: ds, h => by
    have h1 := (h d List.mem_cons_self).len
    obtain ⟨h2, h3⟩ := len_all fun x hx => h x (List.mem_cons_of_mem _ hx)
    simp only [PyData.shownAll, List.map_cons, List.sum_cons, List.length_cons]
    omega
theorem small_list {ds : List PyData} (h : ∀ d ∈ ds, Part d) (hn : ds.length ≤ 1000) : Small (.list ds) := by
  obtain ⟨h2, h3⟩ := len_all h
  refine ⟨by simpa only [PyData.showable] using shows_all h, ?_, ?_⟩
  · have := depth_all h
    simp only [PyData.depth]
    omega
  · have := listText_len_le (PyData.shownAll ds)
    simp only [PyData.shown]
    rw [sizeLine_eq]
    omega
theorem small_tuple {ds : List PyData} (h : ∀ d ∈ ds, Part d) (hn : ds.length ≤ 1000) : Small (.tuple ds) := by
  obtain ⟨h2, h3⟩ := len_all h
  refine ⟨by simpa only [PyData.showable] using shows_all h, ?_, ?_⟩
  · have := depth_all h
    simp only [PyData.depth]
    omega
  · have := tupleText_len_le (PyData.shownAll ds)
    simp only [PyData.shown]
    rw [sizeLine_eq]
    omega
theorem fits_list {ds : List PyData} : Fits (.list ds) := ⟨(fun z e => by cases e), (fun ds e => by cases e)⟩
theorem fits_tuple {ds : List PyData} (h : ∀ d ∈ ds, Part d) (hn : ds.length ≤ 1000) : Fits (.tuple ds) := ⟨(fun z e => by cases e), (fun es e => by cases e; exact ⟨Nat.le_trans hn (by decide), fun d hd => (h d hd).fit⟩)⟩
theorem Part.fits {d : PyData} (h : Part d) (n : ∀ ds, d ≠ .tuple ds) : Fits d := ⟨h.fit, fun ds e => absurd e (n ds)⟩
theorem parts_strs {ws : List Str} (h : ∀ w ∈ ws, Asc w) : ∀ d ∈ ws.map PyData.str, Part d := fun d hd => by
  obtain ⟨w, hw, rfl⟩ := List.mem_map.mp hd
  exact part_str (h w hw)
/-- a drawn thing: it stands, it is short -/
def Good (K : PySem.W.Frag) (H : Hp) (v : V) : Prop := ∃ d, Th K H v d ∧ Fits d ∧ Small d
theorem Good.sb {K : PySem.W.Frag} {H H' : Hp} {wa : Addr} {v : V} (W : Well H wa) (s : Sb wa H H') (h : Good K H v) : Good K H' v := by
  obtain ⟨d, h1, h2⟩ := h
  exact ⟨d, h1.sb W s, h2⟩
theorem Good.same {K : PySem.W.Frag} {H H' : Hp} {v : V} (s : Same H H') (h : Good K H v) : Good K H' v := by
  obtain ⟨d, h1, h2⟩ := h
  exact ⟨d, h1.same s, h2⟩
/-- any of the menu -/
def Any (K : PySem.W.Frag) (H : Hp) (v : V) : Prop := ∃ d, Lf K H v d ∧ Part d ∧ Fits d
theorem Any.sb {K : PySem.W.Frag} {H H' : Hp} {wa : Addr} {v : V} (W : Well H wa) (s : Sb wa H H') (h : Any K H v) : Any K H' v := by
  obtain ⟨d, h1, h2⟩ := h
  exact ⟨d, h1.sb W s, h2⟩
theorem Any.same {K : PySem.W.Frag} {H H' : Hp} {v : V} (s : Same H H') (h : Any K H v) : Any K H' v := by
  obtain ⟨d, h1, h2⟩ := h
  exact ⟨d, h1.same s, h2⟩
theorem Any.good {K : PySem.W.Frag} {H : Hp} {v : V} (h : Any K H v) : Good K H v := by
  obtain ⟨d, h1, h2, h3⟩ := h
  exact ⟨d, .lf h1, h3, h2.small⟩
theorem any_int {K : PySem.W.Frag} {H : Hp} (i : Int) (h : partB (.int i) = true) : Any K H (.int i) := ⟨_, .dat (.int i), part_of h, (part_of h).fits (fun _ e => by cases e)⟩
theorem any_str {K : PySem.W.Frag} {H : Hp} (z : Str) (h : ascB z = true) : Any K H (.str z) := ⟨_, .dat (.str z), part_str (asc_of h), (part_str (asc_of h)).fits (fun _ e => by cases e)⟩
theorem any_non {K : PySem.W.Frag} {H : Hp} : Any K H .non := ⟨_, .dat .non, part_of (by decide +kernel), (part_of (by decide +kernel)).fits (fun _ e => by cases e)⟩
theorem any_bl {K : PySem.W.Frag} {H : Hp} (b : Bool) : Any K H (.bl b) := ⟨_, .dat (.bl b), part_of (by cases b <;> decide +kernel), (part_of (d := .bool b) (by cases b <;> decide +kernel)).fits (fun _ e => by cases e)⟩
theorem any_tup {K : PySem.W.Frag} {H : Hp} {a : Addr} {xs : List V} {ds : List PyData} (h : SqT K H a xs) (hd : DpAll K H xs ds) (p : partB (.tuple ds) = true) (q : ds.all partB = true) (hn : ds.length ≤ 1000) : Any K H (.ref a) :=
  ⟨_, .dat (.tup h hd), part_of p, fits_tuple (fun d h => part_of (List.all_eq_true.mp q d h)) hn⟩
theorem any_lst {K : PySem.W.Frag} {H : Hp} {a : Addr} {xs : List V} {ds : List PyData} (h : SqL K H a xs) (hd : DpAll K H xs ds) (p : partB (.list ds) = true) : Any K H (.ref a) := ⟨_, .dat (.lst h hd), part_of p, fits_list⟩
theorem any_dct0 {K : PySem.W.Frag} {H : Hp} {a : Addr} (h : H a = some (.dK [])) : Any K H (.ref a) := ⟨_, .dct0 h, part_of (by decide +kernel), (part_of (d := .dict []) (by decide +kernel)).fits (fun _ e => by cases e)⟩
theorem any_dct1 {K : PySem.W.Frag} {H : Hp} {a : Addr} {x y : Str} (h : H a = some (.dK [(Sum.inr x, .str y)])) (p : partB (.dict [(.str x, .str y)]) = true) : Any K H (.ref a) := ⟨_, .dct1 h, part_of p, (part_of p).fits (fun _ e => by cases e)⟩
end Ld
/-! A tuple many times; texts joined. -/
namespace Ld
open PySem L2 PyProof.Rows
/-- t * k, up to a hundred thousand items -/
def rRepL (K : PySem.W.Frag) : R2 := fun x y H Q => ∃ l k xs, x = .ref l ∧ y = .int (k : Nat) ∧ SqT K H l xs ∧ xs ≠ [] ∧ 2 ≤ k ∧ xs.length * k ≤ 100000 ∧ ∀ p, H p = none → Q (.ref p) (upd H p (.tup (List.replicate k xs).flatten))
theorem op_repL {X : Cx} : OpR X (binaryOp .Mult) (rRepL X.K) := by
  intro pins s σ H x y v u Q I rx ry h
  obtain ⟨l, k, xs, rfl, rfl, hT, hne, h2, hk, q⟩ := h
  cases rx
  obtain ⟨t, rfl⟩ := ry
  obtain ⟨its, r, ⟨⟨c, dd, dt, sl⟩, ho, (rfl : c = _), n, (rfl : dt = _)⟩, _⟩ := I.tuple hT
  have hlen : its.length = xs.length := r.length.symm
  have hpos : 0 < xs.length := List.length_pos_iff.mpr hne
  have hbig : k ≤ 100000 := Nat.le_trans (Nat.le_mul_of_pos_left k hpos) hk
  have emp : its.toArray.isEmpty = false := by
    cases its with
    | nil =>
      simp at hlen
      omega
    | cons _ _ => rfl
  have siz : its.toArray.size = xs.length := by rw [List.size_toArray, hlen]
  have prod : ((its.toArray.size : Nat) : Int) * (k : Int) = ((xs.length * k : Nat) : Int) := by
    rw [siz]
    exact (Int.natCast_mul _ _).symm
  have flat : (List.replicate k its).flatten.length = xs.length * k := by
    rw [PyProof.Rows.lm_len_rep_flat, hlen, Nat.mul_comm]
  have tk : ((k : Int)).toNat = k := Int.toNat_natCast k
  have one : (its.toArray.isEmpty || (k : Int) == 1) = false := by
    rw [emp]
    exact beq_eq_false_iff_ne.mpr (by omega)
  have zero : (decide ((k : Int) ≤ 0) || its.toArray.isEmpty) = false := by
    rw [emp, decide_eq_false (by omega)]
    rfl
  have wide : (decide ((k : Int) < -(2 ^ 63)) || decide ((k : Int) ≥ 2 ^ 63)) = false := by
    rw [decide_eq_false (show ¬ ((k : Int) < -(2 ^ 63)) by omega), decide_eq_false (show ¬ ((k : Int) ≥ 2 ^ 63) by omega)]
    rfl
  have many : Builtin.Tuple.tupleTooMany (((its.toArray.size : Nat) : Int) * (k : Int)) = false := by
    rw [prod]
    unfold Builtin.Tuple.tupleTooMany
    rw [sizeLine_eq]
    exact decide_eq_false (by omega)
  have room : (List.foldl (fun x1 x2 => x1 ++ x2) #[] (List.replicate (k : Int).toNat its.toArray)).size ≤ sizeLine := by
    rw [size_rep, List.size_toArray, tk, flat, sizeLine_eq]
    omega
  have far : ¬ ((its.toArray.size : Nat) : Int) * (k : Int) > (2 ^ 63 - 1) / 8 := by
    rw [prod]
    omega
  have ty : s.TypeIs (.ref l) "tuple" := ⟨_, ho, rfl⟩
  have done : EP X pins σ Q (Value.ref s.heap.objs.size) { s with heap := s.heap.push { cls := Value.type "tuple", data := Data.seq (List.foldl (fun x1 x2 => x1 ++ x2) #[] (List.replicate (k : Int).toNat its.toArray)) }, toks := s.toks } := by
    rw [size_rep, tk]
    refine ⟨.ref s.heap.objs.size, _, I.laid (t' := s.toks) (o := .tup (List.replicate k xs).flatten) (fun b ob e => Heap.get?_push_of_some _ e) (Nat.le_refl _) ⟨?_, _, r.rep k, IsTup.new _ _⟩, rfl, q _ (I.hok.fresh (Nat.le_refl _))⟩
    rw [PyProof.Rows.lm_len_rep_flat, Nat.mul_comm, sizeLine_eq]
    omega
  have mul := call_meets F.slot_tuple_mul ty F.entry_tuple_mul (F.args_tuple_mul_2 _ _) (tuple_mulW l its.toArray n dd sl (k : Int) t wide one zero far many room) (prog := X.prog) (w := X.w) (A := X.A) (E := X.xe) ⟨ho, done⟩
  exact wpAny_binaryOp_repeat_ref (T := "tuple") (U := "int") (by decide) ty (fun s' => typeIs_int s' _ t) noFill_tuple_mul F.fills_int_mul F.slot_int_rmul repeat_tuple F.slot_int_index.lookup
    (call_meets F.slot_int_rmul (typeIs_int s _ t) F.entry_int_rmul (F.args_int_rmul_2 _ _) (int_rmul_tuple _ t l its.toArray n dd sl) ⟨ho, rfl, ty, mul⟩)
theorem rep_one (x : V) : ∀ n : Nat, (List.replicate n [x]).flatten = List.replicate n x
  | 0 => rfl
  | n + 1 => by rw [List.replicate_succ, List.replicate_succ, List.flatten_cons, rep_one x n]; rfl
theorem join_asc : ∀ ws : List Str, (∀ z ∈ ws, ∀ c ∈ z.cps.toList, c < 128) → (Str.join (Str.ofString "") ws).length = (ws.map (·.length)).sum ∧ ∀ c ∈ (Str.join (Str.ofString "") ws).cps.toList, c < 128
  | [], _ => ⟨rfl, fun c hc => by cases hc⟩
  | [x], h => ⟨by show x.length = x.length + 0; omega, h x List.mem_cons_self⟩
  | x :: y :: r, h => by
    obtain ⟨h1, h2⟩ := join_asc (y :: r) fun z hz => h z (List.mem_cons_of_mem _ hz)
    have e : Str.join (Str.ofString "") (x :: y :: r) = x ++ Str.ofString "" ++ Str.join (Str.ofString "") (y :: r) := rfl
    rw [e]
    refine ⟨?_, fun c hc => ?_⟩
    · rw [strLen_append, strLen_append, h1]
      have e0 : (Str.ofString "").length = 0 := by decide +kernel
      rw [e0, List.map_cons (l := y :: r), List.sum_cons]
      omega
    · have hc : c ∈ ((x.cps ++ (Str.ofString "").cps) ++ (Str.join (Str.ofString "") (y :: r)).cps).toList := hc
      rw [Array.toList_append, Array.toList_append] at hc
      rcases List.mem_append.mp hc with g | g
      · rcases List.mem_append.mp g with g | g
        · exact h x List.mem_cons_self c g
        · have e0 : (Str.ofString "").cps.toList = [] := by decide +kernel
          rw [e0] at g
          cases g
      · exact h2 c g
theorem join_is (ws : List Str) : Txt.join (Str.ofString "") ws = Str.join (Str.ofString "") ws := PySem.StrLaws.glued_eq_join _ ws
theorem sum_le {ws : List Str} {b : Nat} (h : ∀ z ∈ ws, z.length ≤ b) : (ws.map (·.length)).sum ≤ b * ws.length := by
  induction ws with
  | nil => exact Nat.zero_le _
  | cons x r ih =>
    have h1 := h x List.mem_cons_self
    have h2 := ih fun z hz => h z (List.mem_cons_of_mem _ hz)
    rw [List.map_cons, List.sum_cons, List.length_cons, Nat.mul_add]
    omega
theorem good_int {K : PySem.W.Frag} {H : Hp} (i : Int) (h : i.natAbs < 2 ^ 64) : Good K H (.int i) := by
  have l : i.natAbs.log2 < 1920 := by
    by_cases z : i.natAbs = 0
    · rw [z]
      decide
    · exact Nat.lt_trans ((Nat.log2_lt z).mpr h) (by decide)
  refine ⟨.int i, .lf (.dat (.int i)), ⟨(fun z e => by cases e), (fun ds e => by cases e)⟩, ?_, by show 0 ≤ 40; decide, ?_⟩
  · simp only [PyData.showable]
    exact decide_eq_true l
  · simp only [PyData.shown]
    exact int_text_fits l
end Ld
/-! Own exceptions as values: made by place or by name, their fields, isinstance. -/
namespace Ld
namespace EX
open PySem PySem.HandSPX PySem.Builtin PySem.Builtin.ObjectAttr
section
variable {M : Model} {prog : Program} {w : World} {A : Around} {E : Value → Shared → Prop} {R : Result → Shared → Prop} {h : Heap} {g : Array GenState} {d : Drawn} {t : Nat} {os : OsState}
variable {nm q : Str} {C N : Addr} {bs bm bmB : List Value} {hdct : Bool} {sn : List Str} {sub : List Value} {ab : Bool} {col : Option Bool} {dd : Option Addr} {k0 k1 k2 k3 k5 : Option Value} {B newId initId : String}
theorem check_newK (F : ExcBaseFacts B newId initId bmB) (hT : ∀ X : String, bm.contains (.type X) = bmB.contains (.type X)) {rest : List Value} {ks : List (Str × Value)} {Q : Unit → Shared → Prop}
    (hC : h.get? C = some (excClassObj nm q C N bs bm hdct sn sub ab col dd k0 k1 k2 k3 k5 newId)) (hq : Q () ⟨h, g, d, t, os⟩) : wpAny M A (checkBuiltinCall newId ⟨.ref C :: rest, ks⟩) Q E ⟨h, g, d, t, os⟩ := by
  have hcont : (Value.ref C :: bm).contains (.type B) = true := by rw [List.contains_cons, hT, F.hasB, Bool.or_true]
  have hstar := F.noStar
  simp only [checkBuiltinCall, F.newKind, F.newSplit, F.newRow]
  repeat (first | refine wpAny_loadPart_at hC ?_ | (refine wpAny_isSubtype_exc hC ?_; rw [hcont]) | refine wpAny_staticBase_exc hC ?_ | refine wpAny_madeBy_exc hC ?_ | simp only [bne_self_eq_false, Bool.false_eq_true, if_false] | wp_step)
  exact hq
theorem new_ownK (F : ExcBaseFacts B newId initId bmB) (hT : ∀ X : String, bm.contains (.type X) = bmB.contains (.type X)) {rest : List Value} {ks : List (Str × Value)}
    (hC : h.get? C = some (excClassObj nm q C N bs bm hdct sn sub ab col dd k0 k1 k2 k3 k5 newId))
    (hq : R (.ok (.ret (.ref (h.objs.size + 1)))) ⟨(h.push { cls := .type "tuple", data := .seq rest.toArray }).push
      { cls := .ref C, data := .fields #[.ref h.objs.size, .none, .none, .none, .bool false, .none] }, g, d, t, os⟩) (hrest : rest.length ≤ sizeLine) :
    codeAny (model prog w) A (.builtin newId ⟨.ref C :: rest, ks⟩) R ⟨h, g, d, t, os⟩ := by
  have hends := F.ends
  have hcB : (Value.ref C :: bm).contains (.type B) = true := by rw [List.contains_cons, hT, F.hasB, Bool.or_true]
  have hcA : (Value.ref C :: bm).contains (.type "AttributeError") = false := by rw [List.contains_cons, hT, F.noAttr]; rfl
  have hcN : (Value.ref C :: bm).contains (.type "NameError") = false := by rw [List.contains_cons, hT, F.noName]; rfl
  refine codeAny_builtinAt F.entry ?_
  unfold Builtin.«BaseException.__new__»
  refine wpAt_bind ?_
  show wpAt _ _ _ (stack >>= _) _ _ _
  refine wpAt_bind (wpAt_stack fun p below => wpAt_of_wpAny ?_)
  wp_walk
  refine wpAt_of_wpAny ?_
  rw [F.owner]
  repeat (first | with_reducible refine wpAny_madeHere_exc F.canon hC ?_ | with_reducible refine wpAny_loadPart_at hC ?_ | (with_reducible refine wpAny_isSubtype_exc hC ?_; first | rw [hcB] | rw [hcA] | rw [hcN]) | wp_step)
  show R _ _
  rw [Heap.size_push]
  exact hq
theorem type_callK (F : ExcBaseFacts B newId initId bmB) (hT : ∀ X : String, bm.contains (.type X) = bmB.contains (.type X)) {rest : List Value} {ks : List (Str × Value)} {fI : Addr} {Q : Fin → Shared → Prop}
    (hC : h.get? C = some (excClassObj nm q C N bs bm hdct sn sub ab col dd k0 k1 k2 k3 k5 newId))
    (hi : W.Looks (model prog w) h (typeLookup (.ref C) "__init__") (some (.ref fI))) (hb : ∀ self, W.Looks (model prog w) h (bindSpecial (.ref fI) self) (.ref fI, [self])) (hrest : rest.length ≤ sizeLine)
    (hq : codeAny (model prog w) A (.call (.ref fI) ⟨.ref (h.objs.size + 1) :: rest, ks⟩)
      (fun r s' => match r with | .ok (.ret v) => v = .none ∧ Q (.done (.ret (.ref (h.objs.size + 1)))) s' | .ok _ => False | .error e => E e s')
      ⟨(h.push (W.kdv_tup rest)).push (excO C h.objs.size), g, d, t, os⟩) :
    wpAny (model prog w) A (Builtin.«type.__call__» ⟨.ref C :: rest, ks⟩) Q E ⟨h, g, d, t, os⟩ := by
  repeat (first | with_reducible refine wpAny_loadPart_at hC ?_ | with_reducible refine wpAny_madeBy_exc hC ?_ | wp_step)
  refine codeAny_call_builtin_code (Code.quiet_builtin _ F.quiet) (check_newK F hT hC ?_)
  refine new_ownK F hT hC ?_ hrest
  show wpAny _ _ _ _ _ _
  have k : ∀ b o, h.get? b = some o → ((h.push (W.kdv_tup rest)).push (excO C h.objs.size)).get? b = some o := fun b o e => Heap.get?_push_of_some _ (Heap.get?_push_of_some _ e)
  have hC₁ := k _ _ hC
  have hget : ((h.push (W.kdv_tup rest)).push (excO C h.objs.size)).get? (h.objs.size + 1) = some (excO C h.objs.size) := by heap_get
  have hcC : (Value.ref C :: bm).contains (.ref C) = true := by simp
  have i1 := hi.keeps k
  have b1 := (hb (.ref (h.objs.size + 1))).keeps k
  unfold isInstance
  repeat (first | with_reducible refine wpAny_loadPart_at hget ?_ | (with_reducible refine wpAny_isSubtype_exc hC₁ ?_; rw [hcC]) | wp_step)
  show wpAny _ _ (typeLookup (.ref C) _) _ _ _
  refine i1.at ?_
  refine wpAny_holding (wpAny_bind (b1.at ?_))
  refine wpAny_bind (wpAny_call (codeAny_mono hq fun r s' z => ?_))
  rcases r with e | (v | _ | _ | _) <;> first | exact z | exact z.elim | skip
  obtain ⟨rfl, z⟩ := z
  first
    | exact wpAny_pure (wpAny_pure z)
    | (wp_walk; exact z)
theorem call_ownK (F : ExcBaseFacts B newId initId bmB) (hT : ∀ X : String, bm.contains (.type X) = bmB.contains (.type X)) {rest : List Value} {ks : List (Str × Value)} {fI : Addr}
    (hC : h.get? C = some (excClassObj nm q C N bs bm hdct sn sub ab col dd k0 k1 k2 k3 k5 newId))
    (hi : W.Looks (model prog w) h (typeLookup (.ref C) "__init__") (some (.ref fI))) (hb : ∀ self, W.Looks (model prog w) h (bindSpecial (.ref fI) self) (.ref fI, [self])) (hrest : rest.length ≤ sizeLine)
    (hq : codeAny (model prog w) (A.under (.builtin "type.__call__" ⟨.ref C :: rest, ks⟩)) (.call (.ref fI) ⟨.ref (h.objs.size + 1) :: rest, ks⟩) (W.InitBack (h.objs.size + 1) R)
      ⟨(h.push (W.kdv_tup rest)).push (excO C h.objs.size), g, d, t, os⟩) :
    codeAny (model prog w) A (.call (.ref C) ⟨rest, ks⟩) R ⟨h, g, d, t, os⟩ := by
  have f1 := tc_lookup
  have f2 := tc_bind (.ref C)
  have hTy : (⟨h, g, d, t, os⟩ : Shared).TypeIs (.ref C) "type" := ⟨_, hC, rfl⟩
  refine codeAny_of_tree ?_
  show wpAny _ _ (callAny (.ref C) _) _ _ _
  repeat (any_goals (first | assumption | with_reducible refine wpAny_loadPart_at hC ?_ | wp_step))
  refine ⟨rfl, ?_⟩
  refine codeAny_call_builtin_at (Code.quiet_builtin _ (by decide +kernel)) entry_typeCall (wpAny_check_type_call_sub hC (type_callK F hT hC hi hb hrest ?_))
  refine codeAny_mono hq fun r s' z => ?_
  rcases r with e | (v | _ | _ | _) <;> exact z
end
end EX
end Ld
/-! Own exceptions as values: the rules. -/
namespace Ld
open PySem PySem.Spec PyProof.Rows L2
/-- a new exception, its own __init__ keeping sp -/
def tMkX (C : Addr) (n m : Nat) (sp : Sp) (gV : List V → List V → List V) (ta tk : TA) : TE := fun σ H Q => ta σ H fun vs H1 => tk σ H1 fun zs H2 => vs.length = n ∧ zs.length = m ∧ ∀ a, H2 a = none →
  sp (gV (.ref a :: vs) zs) (upd H2 a (exo a C none)) (fun v H3 => v = .non ∧ Q (.ref a) H3) E0
/-- what the class must say to make -/
structure XMk (K : PySem.W.Frag) (C fI : Addr) : Prop where
  T : OexC K C
  iC : PySem.W.findIn K (.ref C) "__init__" = some (some (.ref fI))
  tI : PySem.W.typeIn K (.ref fI) = some (.type "function")
section
variable {X : Cx} {k n : Nat} {C fI : Addr} {fd : FuncData} {ps ks : List Str} {sp : Sp} {x : Str} {p pos : Pos} {e : Expr} {es : List Expr} {kws : List Keyword} {ta tk : TA} {g : List Value → List Value → List Value} {gV : List V → List V → List V}
theorem run_mkx {pins : List (Addr × Obj)} {σ : L2.St} {H : Hp} {s : Shared} {Q : VK} {us ws : List Value} {vs zs : List V} (M : XMk X.K C fI) (F : FnOk X.prog X.w X.K X.mg X.base CX0 k fI fd ps sp) (hr : Room (k + 1) X.A) (hb : KBn X.K fd ps (n + 1) ks g gV)
    (I : Inv X pins σ H s) (r : Vals vs us) (rz : Vals zs ws) (l1 : vs.length = n) (l2 : zs.length = ks.length) (hn : n ≤ 1000)
    (h : ∀ a, H a = none → sp (gV (.ref a :: vs) zs) (upd H a (exo a C none)) (fun v H2 => v = .non ∧ Q (.ref a) H2) E0) :
    wpAny (model X.prog X.w) X.A (call (.ref C) us (ks.zip ws)) (EP X pins σ Q) X.xe s := by
  obtain ⟨nm, q, N, bs, bm, sn, sub, ab, col, dd, k0, k1, k2, k3, k5, hC, hbm⟩ := M.T.cls
  obtain ⟨hp, gs, dr, tk, os⟩ := s
  have hsz : hp.objs.size ≤ hp.objs.size + 1 := Nat.le_succ _
  have hn0 : H (hp.objs.size + 1) = none := I.hok.fresh hsz
  have hq := h (hp.objs.size + 1) hn0
  have kk : ∀ b o, hp.get? b = some o → ((hp.push (PySem.W.kdv_tup us)).push (PySem.HandSPX.excO C hp.objs.size)).get? b = some o := fun b o e => Heap.get?_push_of_some _ (Heap.get?_push_of_some _ e)
  have hget : ((hp.push (PySem.W.kdv_tup us)).push (PySem.HandSPX.excO C hp.objs.size)).get? (hp.objs.size + 1) = some (PySem.HandSPX.excO C hp.objs.size) := by heap_get
  have I2 : Inv X pins σ (upd H (hp.objs.size + 1) (exo (hp.objs.size + 1) C none)) ⟨(hp.push (PySem.W.kdv_tup us)).push (PySem.HandSPX.excO C hp.objs.size), gs, dr, tk, os⟩ :=
    I.laid (t' := tk) (a := hp.objs.size + 1) (o := exo (hp.objs.size + 1) C none) (h' := (hp.push (PySem.W.kdv_tup us)).push (PySem.HandSPX.excO C hp.objs.size)) kk hsz (exo_ok hget)
  have r1 : Vals (V.ref (hp.objs.size + 1) :: vs) (Value.ref (hp.objs.size + 1) :: us) := .cons rfl r
  have r2 := hb.rel r1 rz
  have e1 : (Value.ref (hp.objs.size + 1) :: us).length = n + 1 := r1.length.symm.trans (congrArg Nat.succ l1)
  have e2 : ws.length = ks.length := rz.length.symm.trans l2
  have hus : us.length ≤ sizeLine := by
    rw [← Paired.length r, l1, sizeLine_eq]
    omega
  refine wpAny_call (EX.call_ownK PySem.F.excBase_ValueError (fun Y => PySem.HandSPX.refsVE_contains Y bm hbm) (I.kIn _ _ hC) (PySem.W.looks_findIn I.kIn M.iC) (fun self => PySem.W.bind_fn I.kIn self M.tI) hus
    (codeAny_mono (F.run _ X.stack _ _ ⟨Value.ref (hp.objs.size + 1) :: us, ks.zip ws⟩ (g (Value.ref (hp.objs.size + 1) :: us) ws) _ _ E0 (hr.make C us (ks.zip ws)) (I2.env0.make C us (ks.zip ws)) (hb.to _ (Value.ref (hp.objs.size + 1) :: us) ws I2.kIn e1 e2) r2 hq) fun r s' hq' => ?_))
  cases r with
  | error er => exact pass0 pins σ _ _ er s' I2 hq'
  | ok fl =>
    cases fl with
    | ret u =>
      obtain ⟨v, H', I3, rv, ev, q3⟩ := I2.after hq'
      subst ev
      exact ⟨rv, ⟨V.ref (hp.objs.size + 1), H', I3, rfl, q3⟩⟩
    | next => exact False.elim hq'
    | brk => exact False.elim hq'
    | cont => exact False.elim hq'
/-- C(e) -/
theorem kbn0 {K : PySem.W.Frag} (hb : Binds K fd ps []) : KBn K fd ps ps.length [] (fun us _ => us) (fun vs _ => vs) where
  to := fun s us ws X l1 l2 => by
    have z := hb s us X (by rw [List.append_nil]; exact l1)
    rw [List.append_nil] at z
    exact z
  rel := fun r _ => r
theorem pe_mkx (M : XMk X.K C fI) (F : FnOk X.prog X.w X.K X.mg X.base CX0 k fI fd ps sp) (hr : Room (k + 1) X.A) (hb : KBn X.K fd ps (n + 1) [] (fun us _ => us) (fun vs _ => vs)) (hg : Gl X x) (hm : X.mg x = some (.ref C)) (ha : PA X (e :: es) ta) (hn : n ≤ 1000 := by decide)
    (hdb : (x == ("__debug__" : Str)) = false := by decide) (he : starEach (e :: es) X.env = (false, eval e X.env) :: starEach es X.env := by rfl) (hpl : (backTo pos (starEach es X.env)).any (·.1) = false := by rfl) :
    PE X (.Call (.Name x p) (e :: es) [] pos) (tMkX C n 0 sp (fun vs _ => vs) ta (fun σ H R => R [] H)) := by
  refine ⟨fun pins s σ H Q I h => ?_⟩
  refine wpAny_Call_Name_kw (ld_glob I hg hm ?_ hdb)
  refine PySem.W.callWith_K (h₀ := X.base) I.ok.mod.kin M.T.kC (thn (ha.run pos pins s σ H _ I h) fun us s1 ⟨vs, H1, I1, r1, l1, l2, q1⟩ => ⟨I1.kIn, ?_⟩) he hpl
  exact run_mkx (ws := []) (zs := []) (ks := []) M F hr hb I1 r1 .nil l1 rfl hn q1
/-- C(k = v) -/
theorem pe_mkxK (M : XMk X.K C fI) (F : FnOk X.prog X.w X.K X.mg X.base CX0 k fI fd ps sp) (hr : Room (k + 1) X.A) (hb : KBn X.K fd ps 1 ks g gV) (hg : Gl X x) (hm : X.mg x = some (.ref C)) (hkw : PK X kws tk)
    (hall : (backToKw pos (keywordEach kws X.env)).all (·.1.isSome) = true := by rfl) (hks : (backToKw pos (keywordEach kws X.env)).filterMap (·.1) = ks := by rfl) (hdb : (x == ("__debug__" : Str)) = false := by decide)
    (hpl : ((backTo pos (starEach [] X.env)).any (·.1) || (backToKw pos (keywordEach kws X.env)).any (·.1.isNone)) = false := by rfl) :
    PE X (.Call (.Name x p) [] kws pos) (tMkX C 0 ks.length sp gV tNil tk) := by
  refine ⟨fun pins s σ H Q I h => ?_⟩
  refine wpAny_Call_Name_kw (ld_glob I hg hm ?_ hdb)
  refine PySem.W.callWith_KW0 (h₀ := X.base) I.ok.mod.kin M.T.kC hall ?_ hpl
  refine thn (hkw.run pos pins s σ H _ I h) fun ws s2 ⟨zs, H2, I2, rz, l1, l2, q2⟩ => ⟨I2.kIn, ?_⟩
  rw [hks]
  exact run_mkx (us := []) (vs := []) M F hr hb I2 .nil rz rfl l2 (Nat.zero_le _) q2
/-- f(k = v, ..) of a def -/
def tDfK (m : Nat) (sp : Sp) (gV : List V → List V → List V) (tk : TA) : TE := fun σ H Q => tk σ H fun zs H2 => zs.length = m ∧ sp (gV [] zs) H2 Q E0
theorem pe_dfK {f : Addr} (F : FnOk X.prog X.w X.K X.mg X.base CX0 k f fd ps sp) (hr : Room k X.A) (hg : Gl X x) (hm : X.mg x = some (.ref f)) (hk : PySem.W.keepIn X.K (.ref f) = true) (hb : KBn X.K fd ps 0 ks g gV) (hkw : PK X kws tk)
    (hall : (backToKw pos (keywordEach kws X.env)).all (·.1.isSome) = true := by rfl) (hks : (backToKw pos (keywordEach kws X.env)).filterMap (·.1) = ks := by rfl) (hdb : (x == ("__debug__" : Str)) = false := by decide)
    (hpl : ((backTo pos (starEach [] X.env)).any (·.1) || (backToKw pos (keywordEach kws X.env)).any (·.1.isNone)) = false := by rfl) :
    PE X (.Call (.Name x p) [] kws pos) (tDfK ks.length sp gV tk) := by
  refine ⟨fun pins s σ H Q I h => ?_⟩
  refine wpAny_Call_Name_kw (ld_glob I hg hm ?_ hdb)
  refine PySem.W.callWith_KW0 (h₀ := X.base) I.ok.mod.kin hk hall ?_ hpl
  refine thn (hkw.run pos pins s σ H _ I h) fun ws s2 ⟨zs, H2, I2, rz, l2, q2⟩ => ⟨I2.kIn, ?_⟩
  rw [hks]
  exact run_fnN (us := []) (vs := []) F hr hb pass0 I2 .nil rz rfl l2 q2
end
/-! ### an exception that stands -/
/-- at a stands an exception of C with the fields fs -/
def ExV (H : Hp) (a C d : Addr) (fs : List (Str × V)) : Prop := H a = some (exo a C (some d)) ∧ H d = some (exd d fs)
theorem ExV.same {H H' : Hp} {a C d : Addr} {fs : List (Str × V)} (h : ExV H a C d fs) (s : Same H H') : ExV H' a C d fs := ⟨s _ _ h.1, s _ _ h.2⟩
theorem ExV.inst {P : Program} {w : World} {H : Hp} {h : Heap} {a C d : Addr} {fs : List (Str × V)} (hok : HOk P w H h) (z : ExV H a C d fs) :
    ∃ (oe od : Obj) (mA : Str → Option Value), PySem.W.InstAt h a oe C (some od) ∧ h.get? d = some od ∧ (∀ n, PySem.W.lookIn n od = some (mA n)) ∧ ∀ f, RelO (fs.lookup f) (mA f) := by
  obtain ⟨t1, he⟩ := exo_at hok z.1
  obtain ⟨mA, hns, hr⟩ := exd_at hok z.2
  obtain ⟨od, ho, hl⟩ := lookIn_ns hns
  exact ⟨_, od, mA, ⟨he, rfl, rfl, ho⟩, ho, hl, hr⟩
/-- e.f -/
def tXv (K : PySem.W.Frag) (n : Str) (te : TE) : TE := fun σ H Q => te σ H fun x H1 => ∃ (a C d : Addr) (fs : List (Str × V)) (v : V), x = .ref a ∧ ExV H1 a C d fs ∧ XfC K C ∧ PySem.W.findIn K (.ref C) n = some none ∧ fs.lookup n = some v ∧ Q v H1
theorem pe_xv {X : Cx} {K : PySem.W.Frag} {e : Expr} {te : TE} {pos : Pos} {n : Str} (he : PE X e te) (hK : X.K = K := by rfl) (hb : attributeBase e n X.env (eval e X.env) = eval e X.env := by rfl) : PE X (.Attribute e n pos) (tXv K n te) := by
  subst hK
  refine ⟨fun pins s σ H Q I h => ?_⟩
  refine attr_of hb (thn (he.run pins s σ H _ I h) fun u s1 hh => ?_)
  obtain ⟨x, H1, I1, rx, a, C, d, fs, v, ex, z, T, hno, l, q⟩ := hh
  subst ex
  obtain rfl : u = Value.ref a := rx
  obtain ⟨oe, od, mA, J, ho, hl, hr⟩ := z.inst I1.hok
  obtain ⟨u, hu, ru⟩ := RelO.some_of (v := v) (o := mA n) (by rw [← l]; exact hr n)
  exact HandSPX.exc_get I1.kIn J T.ga T.gg T.exC (PySem.W.findObj_own T.hdC hno rfl (by rw [hl, hu])) (handed_of ru) ⟨v, H1, I1.tok _, ru, q⟩
end Ld
namespace Ld
namespace EX
open PySem PySem.Spec PySem.Calls PyProof.Rows PySem.W
section
variable {prog : Program} {w : World} {A : Around} {E : Value → Shared → Prop} {s : Shared} {K : Frag} {x D : Addr} {ox : Obj} {od : Option Obj}
theorem findObj_dataO {C : Addr} {name : Str} {a g : Value} (hc : (clsIn K C).isSome = true) (ha : findIn K (.ref C) name = some (some a)) (hg : specialIn K a "__get__" = some (some g)) (ht : takesIn K a = some true) : findObj K C od name = some (.bind g a) := by
  obtain ⟨cd, hc⟩ := Option.isSome_iff_exists.mp hc
  unfold findObj
  rw [hc, Option.bind_some, ha, Option.bind_some]
  simp [hg, ht]
theorem kin_classX {Q : Option Value → Shared → Prop} (hga : findIn K (.ref D) "__getattribute__" = some (some (.builtin "BaseException.__getattribute__"))) (hgt : findIn K (.ref D) "__getattr__" = some none) (hsub : subIn K (.ref D) (.type "BaseException") = some true)
    (hdct : hasDictIn K D = true) (ha : findIn K (.ref D) "__class__" = some (some (.builtin "object.__class__")))
    (hn : specialIn K (.builtin "object.__class__") "__get__" = some (some (.builtin "getset_descriptor.__get__"))) (htk : takesIn K (.builtin "object.__class__") = some true) (hm : mroIn K D (.type "object") = some true)
    (X : K.In s.heap) (I : InstAt s.heap x ox D od) (h : Q (some (.ref D)) { s with toks := s.toks + 1 }) : wpAny (model prog w) A (getAttr? (.ref x) "__class__") Q E s := by
  have hf : findObj K D od "__class__" = some (.bind (.builtin "getset_descriptor.__get__") (.builtin "object.__class__")) := findObj_dataO (by obtain ⟨cd, hc, _⟩ := any_some hdct; rw [hc]; rfl) ha hn htk
  obtain ⟨hp, g, d, t, os⟩ := s
  have L0 := I.type (M := model prog w)
  have L1 := looks_findIn (M := model prog w) X hga
  have L2 := looks_findIn (M := model prog w) X hgt
  have L3 := looks_find (M := model prog w) X I hf
  have sub : Looks (model prog w) hp (isInstance (.ref x) (.type "BaseException")) true := L0.andThen (looks_subIn X hsub)
  have hx0 : (false && onTheHeap (Value.builtin "BaseException.__getattribute__")) = false := rfl
  have hx2 : (Value.builtin "BaseException.__getattribute__" == Value.builtin "object.__getattribute__") = false := by decide +kernel
  have hx1 : (onTheHeap (Value.ref D) && Value.builtin "BaseException.__getattribute__" == Value.builtin "object.__getattribute__") = false := by rw [hx2]; rfl
  unfold getAttr? getAttrBy? getAttrBy
  refine wpAny_bind (wpAny_mkText (wpAny_bind (wpAny_attempt (wpAny_holding (wpAny_bind (L0.at (wpAny_bind (L1.at ?_))))))))
  show wpAny _ _ (if (onTheHeap (Value.ref D) && Value.builtin "BaseException.__getattribute__" == Value.builtin "object.__getattribute__") = true then _ else _) _ _ _
  rw [hx1, if_neg Bool.false_ne_true]
  unfold getAttrByItsOwn hookBefore
  refine wpAny_bind ?_
  rw [if_pos (show onTheHeap (Value.ref D) = true from rfl)]
  refine L2.at ?_
  refine wpAny_bind (wpAny_attempt (wpAny_holding ?_))
  unfold callGetattribute
  rw [hx0, if_neg Bool.false_ne_true]
  unfold boundAndCalled
  rw [PySem.F.excAttr_ValueError.ga.bind (.ref x)]
  refine wpAny_bind (wpAny_pure ?_)
  show wpAny _ _ (call (.builtin "BaseException.__getattribute__") [.ref x, .str "__class__" t]) _ _ _
  refine wpAny_call (codeAny_call_builtin PySem.F.excAttr_ValueError.ga.plain PySem.F.entry_bexc_ga ?_)
  refine @check_slot (model prog w) _ _ ⟨hp, g, d, t + 1, os⟩ "BaseException.__getattribute__" "BaseException" "__getattribute__" (.ref x) [.str "__class__" t] [] _ (by decide +kernel) (by decide +kernel) sub (PySem.F.args_bexc_ga (.ref x) (.str "__class__" t)) ?_
  unfold Builtin.«object.__getattribute__»
  refine wpAny_bind (wpAny_of_eq (a := ((Value.ref x : Value), [Value.str "__class__" t])) (by first | rfl | (simp only [slotArgs]; rfl)) ?_)
  refine wpAny_bind (wpAny_pure (wpAny_bind (L0.at (wpAny_bind (L3.at ?_)))))
  show wpAny _ _ (holding [Value.builtin "object.__class__"] (call (.builtin "getset_descriptor.__get__") [.builtin "object.__class__", .ref x, .ref D]) >>= ret) _ _ _
  refine wpAny_bind (wpAny_holding (wpAny_call (class_get (s := ⟨hp, g, d, t + 1, os⟩) (ox := ox) (od := od) X I hm ?_)))
  refine wpAny_pure ?_
  show wpAny _ _ (handedOut (.ref D)) _ _ _
  rw [handedOut_of (v := .ref D) rfl]
  first
    | exact wpAny_pure (wpAny_pure h)
    | exact wpAny_pure h
    | exact wpAny_pure (wpAny_bind (wpAny_pure (wpAny_pure h)))
theorem kitx_exo (hga : findIn K (.ref D) "__getattribute__" = some (some (.builtin "BaseException.__getattribute__"))) (hgt : findIn K (.ref D) "__getattr__" = some none) (hsub : subIn K (.ref D) (.type "BaseException") = some true) (hdct : hasDictIn K D = true) (ha : findIn K (.ref D) "__class__" = some (some (.builtin "object.__class__")))
    (hn : specialIn K (.builtin "object.__class__") "__get__" = some (some (.builtin "getset_descriptor.__get__"))) (htk : takesIn K (.builtin "object.__class__") = some true) (hm : mroIn K D (.type "object") = some true) :
    KitX K (.ref x) (.ref D) (fun h => ∃ ox od, InstAt h x ox D od) where
  ty := fun _ _ _ ⟨_, _, I⟩ => I.type
  it := fun _ _ X _ => by
    obtain ⟨cdD, hcD, _⟩ := any_some hdct
    unfold clsIn at hcD
    split at hcD
    · rename_i c' d' cd' sl' ho
      intro A' Q' E' s' k q
      unfold isType loadHead
      exact wpAny_bind (wpAny_loadPart (k _ _ (X _ _ ho)) (wpAny_pure q))
    · cases hcD
  ne := fun h tp dd its n sl X htp => by
    obtain ⟨cdD, hcD, _⟩ := any_some hdct
    refine Bool.eq_false_iff.mpr fun q => ?_
    have e : D = tp := Value.ref.inj (beq_iff_eq.mp q)
    subst e
    unfold clsIn at hcD
    split at hcD
    · rename_i c' d' cd' sl' ho
      have z := (X _ _ ho).symm.trans htp
      cases z
    · cases hcD
  ca := fun X ⟨_, _, I⟩ k => kin_classX hga hgt hsub hdct ha hn htk hm X I k
end
end EX
end Ld
namespace Ld
open PySem PySem.Spec PyProof.Rows L2
/-- isinstance(e, c) of an exception that stands -/
def rIsX (K : PySem.W.Frag) : List V → Hp → VK → Prop := fun xs H Q => ∃ (a C d : Addr) (fs : List (Str × V)) (c : V) (cv : Value) (b : Bool), xs = [.ref a, c] ∧ ExV H a C d fs ∧ ExcC K C ∧ (∀ u, RelV c u → u = cv) ∧ PySem.W.kitOne K (.ref C) cv = some b ∧ Q (.bl b) H
theorem call_isX {X : Cx} {K : PySem.W.Frag} (hK : X.K = K := by rfl) : CallR X (.builtin "isinstance") (rIsX K) := by
  subst hK
  intro pins s σ H xs us Q I r h
  obtain ⟨a, D, d, fs, c, cv, b, rfl, z, C, hcv, e, q⟩ := h
  cases r with
  | cons rx rr =>
    cases rr with
    | cons rt rr =>
      cases rr
      cases rx
      have ec := hcv _ rt
      subst ec
      obtain ⟨oe, od, mA, J, _, _, _⟩ := z.inst I.hok
      exact PySem.W.kia_one (EX.kitx_exo C.hg C.hk C.hs C.hd C.ha C.hn C.ht C.hm) I.kIn ⟨oe, some od, J⟩ e (fun z => nomatch z) fun tk => ⟨.bl b, H, I.kept (t' := tk) fun _ _ z => z, rfl, q⟩
end Ld
/-! Data of any depth, with dicts by texts. -/
namespace Ld
open PySem L2 PyProof.Rows
def noWell (kvs : List (Key × V)) : Prop := kvs.map (·.1) ≠ [(Sum.inr (Str.ofString "digits") : Key), Sum.inr (Str.ofString "mixed")]
mutual
inductive Dd (K : PySem.W.Frag) (H : Hp) : V → PyData → Prop
  | non : Dd K H .non .none
  | bl (b : Bool) : Dd K H (.bl b) (.bool b)
  | int (i : Int) : Dd K H (.int i) (.int i)
  | str (x : Str) : Dd K H (.str x) (.str x)
  | lst {a : Addr} {xs : List V} {ds : List PyData} : SqL K H a xs → a ≠ sysModules → DdAll K H xs ds → Dd K H (.ref a) (.list ds)
  | tup {a : Addr} {xs : List V} {ds : List PyData} : SqT K H a xs → DdAll K H xs ds → Dd K H (.ref a) (.tuple ds)
  | dct {a : Addr} {kvs : List (Key × V)} {ds : List (PyData × PyData)} : H a = some (.dK kvs) → noWell kvs → DdKv K H kvs ds → Dd K H (.ref a) (.dict ds)
inductive DdAll (K : PySem.W.Frag) (H : Hp) : List V → List PyData → Prop
  | nil : DdAll K H [] []
  | cons {v : V} {d : PyData} {vs : List V} {ds : List PyData} : Dd K H v d → DdAll K H vs ds → DdAll K H (v :: vs) (d :: ds)
inductive DdKv (K : PySem.W.Frag) (H : Hp) : List (Key × V) → List (PyData × PyData) → Prop
  | nil : DdKv K H [] []
  | cons {x : Str} {v : V} {d : PyData} {vs : List (Key × V)} {ds : List (PyData × PyData)} : Dd K H v d → DdKv K H vs ds → DdKv K H ((Sum.inr x, v) :: vs) ((.str x, d) :: ds)
end
section
variable {K : PySem.W.Frag} {H H' : Hp}
mutual
theorem dd_mono (hL : ∀ a xs, SqL K H a xs → SqL K H' a xs) (hT : ∀ a xs, SqT K H a xs → SqT K H' a xs) (hD : ∀ a kvs, H a = some (.dK kvs) → noWell kvs → H' a = some (.dK kvs)) : ∀ {v : V} {d : PyData}, Dd K H v d → Dd K H' v d
  | _, _, .non => .non
  | _, _, .bl b => .bl b
  | _, _, .int i => .int i
  | _, _, .str x => .str x
  | _, _, .lst a n b => .lst (hL _ _ a) n (ddAll_mono hL hT hD b)
  | _, _, .tup a b => .tup (hT _ _ a) (ddAll_mono hL hT hD b)
  | _, _, .dct a n b => .dct (hD _ _ a n) n (ddKv_mono hL hT hD b)
theorem ddAll_mono (hL : ∀ a xs, SqL K H a xs → SqL K H' a xs) (hT : ∀ a xs, SqT K H a xs → SqT K H' a xs) (hD : ∀ a kvs, H a = some (.dK kvs) → noWell kvs → H' a = some (.dK kvs)) : ∀ {v : List V} {d : List PyData}, DdAll K H v d → DdAll K H' v d
  | _, _, .nil => .nil
  | _, _, .cons a b => .cons (dd_mono hL hT hD a) (ddAll_mono hL hT hD b)
theorem ddKv_mono (hL : ∀ a xs, SqL K H a xs → SqL K H' a xs) (hT : ∀ a xs, SqT K H a xs → SqT K H' a xs) (hD : ∀ a kvs, H a = some (.dK kvs) → noWell kvs → H' a = some (.dK kvs)) : ∀ {v : List (Key × V)} {d : List (PyData × PyData)}, DdKv K H v d → DdKv K H' v d
  | _, _, .nil => .nil
  | _, _, .cons a b => .cons (dd_mono hL hT hD a) (ddKv_mono hL hT hD b)
end
theorem Dd.same {v : V} {d : PyData} (h : Dd K H v d) (s : Same H H') : Dd K H' v d := dd_mono (fun _ _ q => s.seq q) (fun _ _ q => same_T s q) (fun _ _ q _ => s _ _ q) h
theorem Well.neD {wa b : Addr} {kvs : List (Key × V)} (W : Well H wa) (e : H b = some (.dK kvs)) (n : noWell kvs) : b ≠ wa := by
  obtain ⟨d, m, h, _⟩ := W
  intro z
  subst z
  rw [h] at e
  cases e
  exact n rfl
theorem Dd.sb {v : V} {d : PyData} {wa : Addr} (h : Dd K H v d) (W : Well H wa) (s : Sb wa H H') : Dd K H' v d := dd_mono (fun _ _ q => seqL W s q) (fun _ _ q => seqT W s q) (fun _ _ q n => s _ _ (W.neD q n) q) h
theorem Dd.ty {v : V} {d : PyData} (z : Dd K H v d) : TyX K H v (.type (kindOf d)) := by
  cases z with
  | non => exact .base .non
  | bl b => exact .base (.bl b)
  | int i => exact .base (.int i)
  | str x => exact .base (.str x)
  | lst hs _ _ =>
    rcases hs with (hs | ⟨o, hs⟩) | ⟨o, its, n, hk, hc, _⟩
    · exact .base (.lst hs)
    · exact .base (.frz hs)
    · exact .kList hk hc
  | tup hs _ =>
    rcases hs with (hs | ⟨o, hs⟩) | ⟨o, its, n, hk, hc, _⟩
    · exact .base (.tup hs)
    · exact .fTuple hs
    · exact .kTuple hk hc
  | dct z _ _ => exact .base (.dK z)
theorem DdAll.append : ∀ {xs ys : List V} {ds es : List PyData}, DdAll K H xs ds → DdAll K H ys es → DdAll K H (xs ++ ys) (ds ++ es)
  | _, _, _, _, .nil, h => h
  | _, _, _, _, .cons a b, h => .cons a (b.append h)
theorem DdAll.get : ∀ {xs : List V} {ds : List PyData}, DdAll K H xs ds → ∀ (i : Nat) (x : V), xs[i]? = some x → ∃ d, ds[i]? = some d ∧ Dd K H x d
  | _, _, .nil, i, x, e => by simp at e
  | _, _, .cons a b, 0, x, e => by
    simp at e
    subst e
    exact ⟨_, rfl, a⟩
  | _, _, .cons a b, i + 1, x, e => by
    obtain ⟨d, q1, q2⟩ := b.get i x (by simpa using e)
    exact ⟨d, by simpa using q1, q2⟩
theorem DdAll.len : ∀ {xs : List V} {ds : List PyData}, DdAll K H xs ds → xs.length = ds.length
  | _, _, .nil => rfl
  | _, _, .cons a b => by simp [b.len]
end
/-! ### repr of it -/
section
variable {K : PySem.W.Frag} {P : Program} {w : World} {H : Hp} {h : Heap}
def NoSys (as : List Addr) : Prop := ¬ sysModules ∈ as
mutual
theorem dd_reads (ok : HOk P w H h) (kin : K.In h) : ∀ {v : V} {d : PyData} {u : Value}, Dd K H v d → RelV v u → ∃ as, Reads h u d as ∧ NoSys as
  | _, _, _, .non, r => by cases r; exact ⟨_, .none, fun z => nomatch z⟩
  | _, _, _, .bl b, r => by cases r; exact ⟨_, .bool b, fun z => nomatch z⟩
  | _, _, _, .int i, r => by obtain ⟨t, rfl⟩ := r; exact ⟨_, .int i t, fun z => nomatch z⟩
  | _, _, _, .str x, r => by obtain ⟨t, rfl⟩ := r; exact ⟨_, .str x t, fun z => nomatch z⟩
  | _, _, _, .lst hs ns ha, r => by
    cases r
    rcases hs with hs | ⟨o, its, n, hk, hc, hd, hs, hz, rv⟩
    · obtain ⟨z, its, n, rv, e⟩ := hs.ok ok
      obtain ⟨as, hr, hn⟩ := ddAll_reads ok kin ha rv
      refine ⟨_, .list e rfl rfl hr, fun q => ?_⟩
      rcases List.mem_cons.mp q with q | q
      · exact ns q.symm
      · exact hn q
    · obtain ⟨as, hr, hn⟩ := ddAll_reads ok kin ha rv
      refine ⟨_, .list (kin _ o hk) hc hs hr, fun q => ?_⟩
      rcases List.mem_cons.mp q with q | q
      · exact ns q.symm
      · exact hn q
  | _, _, _, .tup hs ha, r => by
    cases r
    rcases hs with hs | ⟨o, its, n, hk, hc, hs, hz, rv⟩
    · obtain ⟨z, its, rv, o, e, c, n, dt⟩ := hs.ok ok
      obtain ⟨as, hr, hn⟩ := ddAll_reads ok kin ha rv
      exact ⟨_, .tuple e c dt hr, hn⟩
    · obtain ⟨as, hr, hn⟩ := ddAll_reads ok kin ha rv
      exact ⟨_, .tuple (kin _ o hk) hc hs hr, hn⟩
  | _, _, _, .dct z n kv, r => by
    cases r
    obtain ⟨_, hm, vs, kvr, o, es, ep, e1, e2, e3, _, e4, _⟩ := dk_of ok z
    obtain ⟨as, bs, h1, h2, n1, n2⟩ := ddKv_reads ok kin kv kvr e4
    refine ⟨_, .dict (as := as) (bs := bs) e1 e2.1 e3 h1 h2, fun hin => ?_⟩
    rcases List.mem_append.mp hin with q | q
    · rcases List.mem_cons.mp q with q | q
      · rw [← q] at hm
        exact absurd hm (by decide)
      · exact n1 q
    · exact n2 q
theorem ddAll_reads (ok : HOk P w H h) (kin : K.In h) : ∀ {vs : List V} {ds : List PyData} {us : List Value}, DdAll K H vs ds → Vals vs us → ∃ as, ReadsAll h us ds as ∧ NoSys as
  | _, _, _, .nil, r => by cases r; exact ⟨_, .nil, fun z => nomatch z⟩
  | _, _, _, .cons a b, r => by
    cases r with
    | cons r1 r2 =>
      obtain ⟨as, q1, n1⟩ := dd_reads ok kin a r1
      obtain ⟨bs, q2, n2⟩ := ddAll_reads ok kin b r2
      exact ⟨_, .cons q1 q2, fun z => (List.mem_append.mp z).elim n1 n2⟩
theorem ddKv_reads (ok : HOk P w H h) (kin : K.In h) : ∀ {kvs : List (Key × V)} {ds : List (PyData × PyData)} {vs : List (Key × Value)} {es : List DictEntry}, DdKv K H kvs ds → KV kvs vs → Pairs (mixKind P w) es vs →
    ∃ as bs, ReadsAll h (es.map (·.key)) (ds.map (·.1)) as ∧ ReadsAll h (es.map (·.val)) (ds.map (·.2)) bs ∧ NoSys as ∧ NoSys bs
  | _, _, _, es, .nil, kv, e4 => by
    cases kv
    cases es with
    | nil => exact ⟨_, _, .nil, .nil, (fun z => nomatch z), fun z => nomatch z⟩
    | cons x y => cases e4
  | _, _, _, es, .cons (x := x) a b, kv, e4 => by
    cases kv with
    | @cons _ kv1 _ _ q kv2 =>
      obtain ⟨q1, q2⟩ := q
      obtain ⟨k1, v1⟩ := kv1
      cases q1
      cases es with
      | nil => cases e4
      | cons x1 x2 =>
        cases e4 with
        | cons g1 g2 g3 =>
          have g4 : ∃ t', x1.key = .str x t' := by
            rcases keyIs_shape (show keyIs (.inr x) x1.key = true from g1) with ⟨i, t', z1, _⟩ | ⟨y', t', z1, z2⟩
            · cases z1
            · cases z1
              exact ⟨t', z2⟩
          obtain ⟨t', g4⟩ := g4
          obtain ⟨as, r1, n1⟩ := dd_reads ok kin a q2
          obtain ⟨bs, cs, r2, r3, n2, n3⟩ := ddKv_reads ok kin b kv2 g3
          refine ⟨[] ++ bs, as ++ cs, ?_, ?_, n2, fun z => (List.mem_append.mp z).elim n1 n3⟩
          · show ReadsAll h (x1.key :: x2.map (·.key)) _ _
            rw [g4]
            exact .cons (.str x t') r2
          · show ReadsAll h (x1.val :: x2.map (·.val)) _ _
            rw [g2]
            exact .cons r1 r3
end
theorem Dd.rds {v : V} {d : PyData} (z : Dd K H v d) : Rds K P w H v d := fun h ok kin u r => by
  obtain ⟨as, q, n⟩ := dd_reads ok kin z r
  exact ⟨as, q, fun _ => n⟩
end
end Ld
/-! New lists, apart from the table of modules. -/
namespace Ld
open PySem L2 PyProof.Rows
section
variable {X : Cx}
def tLstN (t : TA) : TE := fun σ H Q => t σ H fun xs H1 => xs.length ≤ sizeLine ∧ ∀ p, H1 p = none → p ≠ sysModules → Q (.ref p) (upd H1 p (.lst xs))
theorem pe_lstN {es : List Expr} {t : TA} {pos : Pos} (h : PA X es t) : PE X (.List es pos) (tLstN t) := by
  refine ⟨fun pins s σ H Q I hq => ?_⟩
  refine wpAny_List_spliced (thn (h.run pos pins s σ H _ I hq) fun us s1 ⟨xs, H1, I1, r, z, q⟩ => ⟨by rw [← r.length]; exact z, ?_⟩)
  have hf : H1 s1.heap.objs.size = none := I1.hok.fresh (Nat.le_refl _)
  refine ⟨.ref s1.heap.objs.size, upd H1 s1.heap.objs.size (.lst xs), I1.laid (t' := s1.toks) (fun b u e => Heap.get?_push_of_some _ e) (Nat.le_refl _) ?_, rfl, q _ hf (Nat.ne_of_gt I1.big)⟩
  exact ⟨z, us, 0, r, Heap.get?_push_size _ rfl⟩
def rCatN : R2 := fun x y H Q => ∃ l b xs zs, x = .ref l ∧ y = .ref b ∧ H l = some (.lst xs) ∧ H b = some (.lst zs) ∧ xs.length + zs.length ≤ sizeLine ∧ ∀ p, H p = none → p ≠ sysModules → Q (.ref p) (upd H p (.lst (xs ++ zs)))
theorem op_catN : OpR X (binaryOp .Add) rCatN := by
  intro pins s σ H x y v u Q I rx ry h
  obtain ⟨l, b, xs, zs, rfl, rfl, hH, hB, hz, q⟩ := h
  cases rx
  cases ry
  obtain ⟨z, its, n, r, hl, e⟩ := I.lstM hH
  obtain ⟨z2, its2, n2, r2, hl2, e2⟩ := I.lstM hB
  refine PySem.P.add_list e e2 ?_ (by rw [List.size_toArray, List.size_toArray]; omega)
  have ea : its.toArray ++ its2.toArray = (its ++ its2).toArray := by simp
  rw [ea]
  exact ⟨.ref _, _, I.lnew (t' := s.toks) (r.append r2) (by rw [List.length_append]; omega), rfl, q _ I.fresh (Nat.ne_of_gt I.big)⟩
def rRepN : R2 := fun x y H Q => ∃ l k xs, x = .ref l ∧ y = .int k ∧ H l = some (.lst xs) ∧ -(2 ^ 63) ≤ k ∧ k < 2 ^ 63 ∧ xs.length * k.toNat ≤ sizeLine ∧
  ∀ p, H p = none → p ≠ sysModules → Q (.ref p) (upd H p (.lst (List.replicate k.toNat xs).flatten))
theorem op_repN : OpR X (binaryOp .Mult) rRepN := by
  intro pins s σ H x y v u Q I rx ry h
  obtain ⟨l, k, xs, rfl, rfl, hH, h1, h2, hz, q⟩ := h
  cases rx
  obtain ⟨t, rfl⟩ := ry
  obtain ⟨z, its, n, r, hl, e⟩ := I.lstM hH
  have hlen : its.toArray.size * k.toNat ≤ sizeLine := by rw [List.size_toArray, ← hl]; exact hz
  have hcap : ¬ its.toArray.size * k.toNat > (2 ^ 63 - 1) / 8 := by
    have : (sizeLine : Nat) ≤ (2 ^ 63 - 1) / 8 := by decide
    omega
  have hfit : ¬ (!Builtin.List.listFitsIndex k) = true := by
    rw [fitsIndex_both h1 h2]
    exact Bool.false_ne_true
  have hlong : ¬ Builtin.List.listTooLong (its.toArray.size * k.toNat) = true := by
    rw [notLongL hlen]
    exact Bool.false_ne_true
  have hnew : List.foldl (fun x1 x2 => x1 ++ x2) #[] (List.replicate (if its.toArray.isEmpty = true then 0 else k.toNat) its.toArray) = (List.replicate k.toNat its).flatten.toArray := by
    have f0 : ∀ m : Nat, List.foldl (fun x1 x2 => x1 ++ x2) #[] (List.replicate m its.toArray) = (List.replicate m its).flatten.toArray := fun m => by
      have := foldl_rep its m []
      rw [List.nil_append] at this
      exact this
    rw [f0]
    cases its with
    | nil => simp
    | cons a r' => rw [if_neg (by simp)]
  refine wpAny_binaryOp_repeat_ref (T := "list") (U := "int") (by decide) ⟨_, e, rfl⟩ (fun s' => typeIs_int s' k t) noFill_list_mul F.fills_int_mul F.slot_int_rmul repeat_list F.slot_int_index.lookup
    (call_meets F.slot_int_rmul (typeIs_int s k t) F.entry_int_rmul (F.args_int_rmul_2 _ _) (int___rmul___int_list k t l its.toArray n)
      ⟨e, rfl, ⟨_, e, rfl⟩, call_meets F.slot_list_mul ⟨_, e, rfl⟩ F.entry_list_mul (F.args_list_mul_2 _ _) (AutoListH.list___mul___list_int_3 l its.toArray n k t hfit hcap hlong) ⟨e, ?_⟩⟩)
  rw [hnew]
  exact ⟨.ref _, _, I.lnew (t' := s.toks) (r.rep k.toNat) (by rw [PyProof.Rows.lm_len_rep_flat, Nat.mul_comm]; exact hz), rfl, q _ I.fresh (Nat.ne_of_gt I.big)⟩
end
section
variable {K : PySem.W.Frag} {H : Hp} {v : V}
theorem Dd.int_v {i : Int} (h : Dd K H v (.int i)) : v = .int i := by
  cases h
  rfl
theorem Dd.str_v {z : Str} (h : Dd K H v (.str z)) : v = .str z := by
  cases h
  rfl
theorem Dd.its {ds : List PyData} (z : Dd K H v (.tuple ds)) : ∃ a xs, v = .ref a ∧ SqT K H a xs ∧ xs.length = ds.length ∧ ∀ (i : Nat) (x : V), xs[i]? = some x → ∃ d, ds[i]? = some d ∧ Dd K H x d := by
  cases z with
  | tup hs ha => exact ⟨_, _, rfl, hs, ha.len, ha.get⟩
end
end Ld
/-! set(words): of a list or a tuple of texts. -/
namespace Ld
open PySem L2 PyProof.Rows
/-- the texts met so far, as a set of keys -/
def metK (xs : List Str) (i : Nat) : Key → Bool := fun k => (xs.take i).any fun z => decide (k = Sum.inr z)
theorem metK_succ {xs : List Str} {i : Nat} (h : i < xs.length) (k : Key) : metK xs (i + 1) k = (metK xs i k || decide (k = Sum.inr (xs.getD i Str.empty))) := by
  unfold metK
  rw [List.take_succ, List.getElem?_eq_getElem h, List.any_append, List.getD_eq_getElem?_getD, List.getElem?_eq_getElem h]
  simp
/-- of how many the set consists does not matter, as long as they are few -/
def FewOf (P : Program) (w : World) (h : Heap) (S : Addr) (xs : List Str) (i : Nat) : Prop := ∃ c, c ≤ i ∧ h.SetOf (mixKind P w) S (metK xs i) c
theorem FewOf.moved {P : Program} {w : World} {h h' : Heap} {S : Addr} {xs : List Str} {i : Nat} (f : FewOf P w h S xs i) (k : ∀ o, h.get? S = some o → h'.get? S = some o) : FewOf P w h' S xs i := by
  obtain ⟨c, hc, o, es, ep, t, e, r⟩ := f
  exact ⟨c, hc, o, es, ep, t, k o e, r⟩
section
variable {P : Program} {w : World} {A : Around} {R : Result → Shared → Prop} {I : Addr} {fp wr : List Addr} {G : Array GenState → Array GenState → Prop} {n : Nat} {PP : Nat → Value → Prop} {St : Nat → Shared → Prop}
theorem fill_texts (W : WalksS P w A.in1 I fp wr G n PP St) (S : Addr) (out : ¬ S ∈ fp) (xs : List Str) (hn : xs.length = n) (few : n + 1 < scanBound) (val : ∀ i v, PP i v → ∃ t, v = .str (xs.getD i Str.empty) t) (left : Nat) :
    ∀ (i : Nat) (s : Shared), left + i = n → St i s → FewOf P w s.heap S xs i → (∀ s', Moved (S :: wr) G s s' → FewOf P w s'.heap S xs n → R (.ok (.ret .none)) s') →
      codeAny (model P w) A (.builtin "set.update.loop" ⟨[.ref S, .ref I], []⟩) R s := by
  have notW : ¬ S ∈ wr := fun z => out (W.sub S z)
  have more : ∀ b ∈ wr, b ∈ S :: wr := fun b hb => List.mem_cons_of_mem S hb
  induction left with
  | zero =>
    intro i s e st f hR
    have e : i = n := by omega
    subst e
    refine codeAny_builtin F.entry_set_update_loop ?_
    rw [Around.under_plainId F.plain_set_update_loop _]
    show wpAny _ A.in1 (pyNext (.ref I) >>= _) _ _ s
    refine wpAny_bind (W.done s _ _ st fun s' mv => ?_)
    show wpAny _ A.in1 (ret Value.none) _ _ s'
    exact wpAny_pure (hR s' (mv.mono more) (f.moved fun o z => mv.heap S o notW z))
  | succ left ih =>
    intro i s e st f hR
    have lt : i < n := by omega
    refine codeAny_builtin F.entry_set_update_loop ?_
    rw [Around.under_plainId F.plain_set_update_loop _]
    show wpAny _ A.in1 (pyNext (.ref I) >>= _) _ _ s
    refine wpAny_bind (W.item i s _ _ lt st fun v s1 hv st1 mv => ?_)
    obtain ⟨t, rfl⟩ := val i v hv
    obtain ⟨c, hc, hS⟩ := f.moved fun o z => mv.heap S o notW z
    have rel : RelV (kV (Sum.inr (xs.getD i Str.empty))) (Value.str (xs.getD i Str.empty) t) := ⟨t, rfl⟩
    show wpAny _ A.in1 (holding [Value.str (xs.getD i Str.empty) t] (setAdd S (.str (xs.getD i Str.empty) t)) >>= _) _ _ s1
    refine wpAny_bind (wpAny_holding ?_)
    unfold setAdd
    refine wpAny_holding (wpAny_bind ((mixKind P w).pyHash (k := Sum.inr (xs.getD i Str.empty)) (kV_is rel) ?_))
    refine wpAny_setAddHashed_of (s := { s1 with toks := s1.toks + 1 }) (kV_is rel) (key_scan rel) hS (by omega) fun h2 same hS2 => ?_
    have f2 : FewOf P w h2 S xs (i + 1) := by
      refine ⟨if metK xs i (Sum.inr (xs.getD i Str.empty)) = true then c else c + 1, by split <;> omega, ?_⟩
      rw [show metK xs (i + 1) = fun k => metK xs i k || decide (k = Sum.inr (xs.getD i Str.empty)) from funext (metK_succ (by omega))]
      exact hS2
    refine wpAny_pure ⟨plainId_quiet F.plain_set_update_loop _, ih (i + 1) _ (by omega) (W.frame _ s1 _ _ st1 (Nat.le_succ _) fun b hb o z => ?_) f2 fun s3 mv3 f3 => hR s3 (Moved.trans W.gtrans ((mv.mono more).then_heap (Nat.le_succ _) fun b o nb z => ?_) mv3) f3⟩
    · rw [same.2 b fun (q : b = S) => out (q ▸ hb)]
      exact z
    · rw [same.2 b fun (q : b = S) => nb (by rw [q]; exact List.mem_cons_self)]
      exact z
end
section
variable {P : Program} {w : World} {A : Around} {E : Value → Shared → Prop} {s : Shared}
/-- a new set, as it is laid -/
abbrev newSet (led : Bool) : Obj := { cls := .type "set", dict := none, data := .set #[] 0 (.fresh 0 0 led) }
theorem fresh_few {h : Heap} {S : Addr} {led : Bool} {xs : List Str} (e : h.get? S = some (newSet led)) : FewOf P w h S xs 0 :=
  ⟨0, Nat.le_refl _, _, #[], 0, _, e, ⟨rfl, rfl, rfl⟩, rfl, (fun e he => by simp at he), (fun k => by simp [metK]), (by decide), (by cases led <;> rfl), rfl⟩
set_option maxHeartbeats 8000000 in
theorem set_of_list {l : Addr} {items : Array Value} {xs : List Str} {Q : Value → Shared → Prop} (hh : A.handled = none) (hl : s.heap.IsList l items) (hi : StrsAre items.toList xs) (few : xs.length + 1 < scanBound)
    (done : ∀ (h' : Heap) (tk : Nat), FewOf P w h' s.heap.objs.size xs xs.length → (∀ b o, s.heap.get? b = some o → h'.get? b = some o) → Q (.ref s.heap.objs.size) { s with heap := h', toks := tk }) :
    wpAny (model P w) A (call (.type "set") [.ref l]) Q E s := by
  obtain ⟨c, tl, hmro⟩ := PySem.F.called_set.mro
  have g1 := PySem.F.called_set.made
  have g2 := PySem.F.called_set.sub
  have g3 := PySem.F.called_set.notType
  have g4 := PySem.F.called_set.canCreate
  have g5 := PySem.F.typeCall_set_1 (.ref l)
  refine wpAny_call (codeAny_of_tree (show wpAny _ _ (callAny (.type "set") _) _ _ _ from wpAny_pure ⟨Code.quiet_builtin _ (by decide +kernel), codeAny_builtin PySem.F.entry_type_call ?_⟩))
  rw [Around.under_plain (weight_type_call_type "set" [.ref l] []) rfl]
  repeat (any_goals (first | assumption | wp_step))
  refine codeAny_mono (code_set_new_1 (.ref l) (E := E) (Q₁ := fun v z => ∃ led : Bool, v = .ref s.heap.objs.size ∧ z = { s with heap := s.heap.push (newSet led) }) fun led => ⟨led, rfl, rfl⟩) fun r s1 hr => ?_
  cases r with
  | error e => exact hr
  | ok fl =>
    cases fl with
    | next => exact hr.elim
    | brk => exact hr.elim
    | cont => exact hr.elim
    | ret v =>
      obtain ⟨led, rfl, rfl⟩ := hr
      have laid : (s.heap.push (newSet led)).get? s.heap.objs.size = some (newSet led) := Heap.get?_push_size _ rfl
      have tyS : Shared.TypeIs { s with heap := s.heap.push (newSet led) } (.ref s.heap.objs.size) "set" := ⟨_, laid, rfl⟩
      have g6 := PySem.F.called_set.init.lookup
      have g7 := PySem.F.called_set.init.bind (.ref s.heap.objs.size)
      repeat (any_goals (first | assumption | wp_step))
      refine codeAny_mono (codeAny_call_builtin (R := wants (fun v z => v = .none ∧ ∃ h' tk, z = { s with heap := h', toks := tk } ∧ FewOf P w h' s.heap.objs.size xs xs.length ∧ ∀ b o, b < s.heap.objs.size → s.heap.get? b = some o → h'.get? b = some o) E)
        PySem.F.called_set.init.plain PySem.F.entry_set_init (check_set_init_1 tyS ?_)) fun r2 s2 hr2 => ?_
      · obtain ⟨⟨oc, od, dt, sl⟩, ho, hc, nl, hd⟩ := hl
        simp only at hc hd
        subst hc
        subst hd
        have there : (s.heap.push (newSet led)).get? l = some { cls := .type "list", dict := od, data := .seq items nl, slots := sl } := Heap.get?_push_of_some _ ho
        have g8 := PySem.F.sub_list_set
        have g9 := PySem.F.sub_list_frozenset
        have g10 : (Value.type "list" == Value.type "dict") = false := by decide
        have isq : (s.heap.push (newSet led)).IsList l items := ⟨_, there, rfl, nl, rfl⟩
        unfold Builtin.«set.__init__» noKeywords Builtin.Frozenset.updateFrom
        generalize hPI : pyIter = PI
        wp_walk
        subst hPI
        refine wpAny_pyIter_list isq (wpAny_bind (wpAny_runValue ?_))
        have below : l < s.heap.objs.size := Heap.lt_size ho
        have handled3 : A.in1.in1.in1.handled = none := by simp [hh]
        have apart : l ≠ (s.heap.push (newSet led)).objs.size := by
          rw [Heap.size_push]
          exact Nat.ne_of_lt (Nat.lt_succ_of_lt below)
        have away : ¬ s.heap.objs.size ∈ [(s.heap.push (newSet led)).objs.size, l] := by
          rw [Heap.size_push]
          intro z
          rcases List.mem_cons.mp z with z | z
          · exact absurd z (Nat.ne_of_lt (Nat.lt_succ_self _))
          · exact absurd (List.mem_singleton.mp z) (Nat.ne_of_gt below)
        have many : xs.length = items.size := by rw [← StrsAre.len_eq hi, Array.length_toList]
        have val : ∀ (i : Nat) (v : Value), items[i]? = some v → ∃ t, v = .str (xs.getD i Str.empty) t := fun i v hv => SS.strs_at hi i v (by rw [Array.getElem?_toList]; exact hv)
        refine fill_texts ((Walks.list handled3 _ l apart items).toS) s.heap.objs.size away xs many (by omega) val items.size 0 _ rfl ⟨⟨_, Heap.get?_push_size _ rfl, rfl, rfl⟩, isq.push _⟩ ?_ fun s3 mv f3 => ?_
        · have still : ((s.heap.push (newSet led)).push { cls := .type "list_iterator", data := .fields #[.ref l, .int 0 0] }).get? s.heap.objs.size = some (newSet led) := Heap.get?_push_of_some _ laid
          exact fresh_few still
        · obtain ⟨h', g', d', tk', os'⟩ := s3
          obtain rfl : g' = s.gens := mv.gens
          obtain rfl : d' = s.drawn := mv.drawn
          obtain rfl : os' = s.os := mv.os
          show wpAny _ _ _ _ _ _
          refine wpAny_pure ?_
          show wpAny _ _ (ret Value.none) _ _ _
          refine wpAny_pure ⟨rfl, h', tk', rfl, by rw [many]; exact f3, fun b o hb e => mv.heap b o (fun z => ?_) (Heap.get?_push_of_some _ (Heap.get?_push_of_some _ e))⟩
          rcases List.mem_cons.mp z with z | z
          · exact absurd z (Nat.ne_of_lt hb)
          · rw [Heap.size_push] at z
            exact absurd (List.mem_singleton.mp z) (Nat.ne_of_lt (Nat.lt_succ_of_lt hb))
      · cases r2 with
        | error e => exact hr2
        | ok fl2 =>
          cases fl2 with
          | next => exact hr2.elim
          | brk => exact hr2.elim
          | cont => exact hr2.elim
          | ret v =>
            obtain ⟨rfl, h', tk, rfl, f, kp⟩ := hr2
            repeat (any_goals (first | assumption | wp_step))
            exact done _ _ f fun b o e => kp b o (Heap.lt_size e) e
set_option maxHeartbeats 8000000 in
theorem set_of_tuple {l : Addr} {items : Array Value} {xs : List Str} {Q : Value → Shared → Prop} (hh : A.handled = none) (hl : s.heap.IsTuple l items) (hi : StrsAre items.toList xs) (few : xs.length + 1 < scanBound)
    (done : ∀ (h' : Heap) (tk : Nat), FewOf P w h' s.heap.objs.size xs xs.length → (∀ b o, s.heap.get? b = some o → h'.get? b = some o) → Q (.ref s.heap.objs.size) { s with heap := h', toks := tk }) :
    wpAny (model P w) A (call (.type "set") [.ref l]) Q E s := by
  obtain ⟨c, tl, hmro⟩ := PySem.F.called_set.mro
  have g1 := PySem.F.called_set.made
  have g2 := PySem.F.called_set.sub
  have g3 := PySem.F.called_set.notType
  have g4 := PySem.F.called_set.canCreate
  have g5 := PySem.F.typeCall_set_1 (.ref l)
  refine wpAny_call (codeAny_of_tree (show wpAny _ _ (callAny (.type "set") _) _ _ _ from wpAny_pure ⟨Code.quiet_builtin _ (by decide +kernel), codeAny_builtin PySem.F.entry_type_call ?_⟩))
  rw [Around.under_plain (weight_type_call_type "set" [.ref l] []) rfl]
  repeat (any_goals (first | assumption | wp_step))
  refine codeAny_mono (code_set_new_1 (.ref l) (E := E) (Q₁ := fun v z => ∃ led : Bool, v = .ref s.heap.objs.size ∧ z = { s with heap := s.heap.push (newSet led) }) fun led => ⟨led, rfl, rfl⟩) fun r s1 hr => ?_
  cases r with
  | error e => exact hr
  | ok fl =>
    cases fl with
    | next => exact hr.elim
    | brk => exact hr.elim
    | cont => exact hr.elim
    | ret v =>
      obtain ⟨led, rfl, rfl⟩ := hr
      have laid : (s.heap.push (newSet led)).get? s.heap.objs.size = some (newSet led) := Heap.get?_push_size _ rfl
      have tyS : Shared.TypeIs { s with heap := s.heap.push (newSet led) } (.ref s.heap.objs.size) "set" := ⟨_, laid, rfl⟩
      have g6 := PySem.F.called_set.init.lookup
      have g7 := PySem.F.called_set.init.bind (.ref s.heap.objs.size)
      repeat (any_goals (first | assumption | wp_step))
      refine codeAny_mono (codeAny_call_builtin (R := wants (fun v z => v = .none ∧ ∃ h' tk, z = { s with heap := h', toks := tk } ∧ FewOf P w h' s.heap.objs.size xs xs.length ∧ ∀ b o, b < s.heap.objs.size → s.heap.get? b = some o → h'.get? b = some o) E)
        PySem.F.called_set.init.plain PySem.F.entry_set_init (check_set_init_1 tyS ?_)) fun r2 s2 hr2 => ?_
      · obtain ⟨⟨oc, od, dt, sl⟩, ho, hc, nl, hd⟩ := hl
        simp only at hc hd
        subst hc
        subst hd
        have there : (s.heap.push (newSet led)).get? l = some { cls := .type "tuple", dict := od, data := .seq items nl, slots := sl } := Heap.get?_push_of_some _ ho
        have g8 := PySem.F.sub_tuple_set
        have g9 := PySem.F.sub_tuple_frozenset
        have g10 : (Value.type "tuple" == Value.type "dict") = false := by decide
        have isq : (s.heap.push (newSet led)).IsTuple l items := ⟨_, there, rfl, nl, rfl⟩
        unfold Builtin.«set.__init__» noKeywords Builtin.Frozenset.updateFrom
        generalize hPI : pyIter = PI
        wp_walk
        subst hPI
        refine wpAny_pyIter_tuple isq (wpAny_bind (wpAny_runValue ?_))
        have below : l < s.heap.objs.size := Heap.lt_size ho
        have handled3 : A.in1.in1.in1.handled = none := by simp [hh]
        have apart : l ≠ (s.heap.push (newSet led)).objs.size := by
          rw [Heap.size_push]
          exact Nat.ne_of_lt (Nat.lt_succ_of_lt below)
        have away : ¬ s.heap.objs.size ∈ [(s.heap.push (newSet led)).objs.size, l] := by
          rw [Heap.size_push]
          intro z
          rcases List.mem_cons.mp z with z | z
          · exact absurd z (Nat.ne_of_lt (Nat.lt_succ_self _))
          · exact absurd (List.mem_singleton.mp z) (Nat.ne_of_gt below)
        have many : xs.length = items.size := by rw [← StrsAre.len_eq hi, Array.length_toList]
        have val : ∀ (i : Nat) (v : Value), items[i]? = some v → ∃ t, v = .str (xs.getD i Str.empty) t := fun i v hv => SS.strs_at hi i v (by rw [Array.getElem?_toList]; exact hv)
        refine fill_texts ((Walks.tuple handled3 _ l apart items).toS) s.heap.objs.size away xs many (by omega) val items.size 0 _ rfl ⟨⟨_, Heap.get?_push_size _ rfl, rfl, rfl⟩, isq.push _⟩ ?_ fun s3 mv f3 => ?_
        · have still : ((s.heap.push (newSet led)).push { cls := .type "tuple_iterator", data := .fields #[.ref l, .int 0 0] }).get? s.heap.objs.size = some (newSet led) := Heap.get?_push_of_some _ laid
          exact fresh_few still
        · obtain ⟨h', g', d', tk', os'⟩ := s3
          obtain rfl : g' = s.gens := mv.gens
          obtain rfl : d' = s.drawn := mv.drawn
          obtain rfl : os' = s.os := mv.os
          show wpAny _ _ _ _ _ _
          refine wpAny_pure ?_
          show wpAny _ _ (ret Value.none) _ _ _
          refine wpAny_pure ⟨rfl, h', tk', rfl, by rw [many]; exact f3, fun b o hb e => mv.heap b o (fun z => ?_) (Heap.get?_push_of_some _ (Heap.get?_push_of_some _ e))⟩
          rcases List.mem_cons.mp z with z | z
          · exact absurd z (Nat.ne_of_lt hb)
          · rw [Heap.size_push] at z
            exact absurd (List.mem_singleton.mp z) (Nat.ne_of_lt (Nat.lt_succ_of_lt hb))
      · cases r2 with
        | error e => exact hr2
        | ok fl2 =>
          cases fl2 with
          | next => exact hr2.elim
          | brk => exact hr2.elim
          | cont => exact hr2.elim
          | ret v =>
            obtain ⟨rfl, h', tk, rfl, f, kp⟩ := hr2
            repeat (any_goals (first | assumption | wp_step))
            exact done _ _ f fun b o e => kp b o (Heap.lt_size e) e
end
/-- the set of the words xs stands at p -/
def WordSet (P : Program) (w : World) (H : Hp) (p : Addr) (xs : List Str) : Prop := ∃ c, H p = some (SetK P w p (metK xs xs.length) c)
def rSetS (K : PySem.W.Frag) (P : Program) (w : World) : List V → Hp → VK → Prop := fun vs H Q => ∃ (a : Addr) (xs : List Str), vs = [.ref a] ∧ (SqL K H a (xs.map V.str) ∨ SqT K H a (xs.map V.str)) ∧ xs.length ≤ 1000 ∧ ∀ p H', Same H H' → WordSet P w H' p xs → Q (.ref p) H'
theorem strs_of : ∀ {xs : List Str} {us : List Value}, Vals (xs.map V.str) us → StrsAre us xs
  | [], _, .nil => .nil
  | x :: xs, _, .cons r t => by
    obtain ⟨k, rfl⟩ := r
    exact .cons x k (strs_of t)
theorem cr_setS {X : Cx} (hc : X.calm = true) : CallR X (.type "set") (rSetS X.K X.prog X.w) := by
  intro pins s σ H vs us Q I r h
  obtain ⟨a, xs, rfl, hq, hz, q⟩ := h
  obtain ⟨u, rfl, ru⟩ := vals1 r
  cases ru
  have few : xs.length + 1 < scanBound := Nat.lt_of_le_of_lt (Nat.succ_le_succ hz) (by decide)
  have fresh := I.hok.fresh (Nat.le_refl s.heap.objs.size)
  have fin : ∀ (h' : Heap) (tk : Nat), FewOf X.prog X.w h' s.heap.objs.size xs xs.length → (∀ b o, s.heap.get? b = some o → h'.get? b = some o) → EP X pins σ Q (.ref s.heap.objs.size) { s with heap := h', toks := tk } := fun h' tk ⟨c, _, hS⟩ kp =>
    ⟨.ref s.heap.objs.size, upd H s.heap.objs.size (SetK X.prog X.w s.heap.objs.size (metK xs xs.length) c), I.laid (t' := tk) kp (Nat.le_refl _) (setK_new hS), rfl, q _ _ (Ld.Same.new fresh) ⟨c, upd_same⟩⟩
  rcases hq with hq | hq
  · obtain ⟨its, rv, ⟨o, n, e, c, _, d⟩, _⟩ := I.list hq
    exact set_of_list (I.ok.hd hc) ⟨o, e, c, n, d⟩ (strs_of rv) few fin
  · obtain ⟨its, rv, ⟨o, e, c, n, d⟩, _⟩ := I.tuple hq
    exact set_of_tuple (I.ok.hd hc) ⟨o, e, c, n, d⟩ (strs_of rv) few fin
/-- word in set -/
def rInS (P : Program) (w : World) : R2 := fun x y H Q => ∃ (z : Str) (p : Addr) (xs : List Str), x = .str z ∧ y = .ref p ∧ WordSet P w H p xs ∧ Q (.bl (decide (z ∈ xs))) H
theorem metK_in (xs : List Str) (z : Str) : metK xs xs.length (Sum.inr z) = decide (z ∈ xs) := by
  unfold metK
  rw [List.take_length, Bool.eq_iff_iff]
  simp
theorem op_inWords {X : Cx} : OpR X (compareOp .In) (rInS X.prog X.w) := OpR.conv or_sinK fun x y H Q ⟨z, p, xs, e1, e2, ⟨c, h⟩, q⟩ => by
  refine ⟨Sum.inr z, p, _, c, e1, e2, h, ?_⟩
  show Q (.bl (metK xs xs.length (Sum.inr z))) H
  rw [metK_in]
  exact q
end Ld
/-! Order of tuples, texts many times, data of words. -/
namespace Ld
open PySem L2 PyProof.Rows
section
variable {X : Cx}
/-- a < b of data that is alike -/
def rLtD (K : PySem.W.Frag) : R2 := fun x y H Q => ∃ d e, Dp K H x d ∧ Dp K H y e ∧ PySem.W.alike d e = true ∧ d ≠ .none ∧ d.depth ≤ 64 ∧ Q (.bl (PySem.W.dataLt d e)) H
theorem op_ltD (hu : X.A.units + 64 < cLine) : OpR X (compareOp .Lt) (rLtD X.K) := by
  intro pins s σ H x y v u Q I rx ry h
  obtain ⟨d, e, hd, he, ha, hn, hp, q⟩ := h
  obtain ⟨as, r1⟩ := dp_reads I.hok I.kIn d x v hd rx
  obtain ⟨bs, r2⟩ := dp_reads I.hok I.kIn e y u he ry
  have m : min d.depth e.depth ≤ d.depth := Nat.min_le_left _ _
  exact PySem.W.rcLt_alike d e X.A s v u as bs r1 r2 ha hn (by omega) X.prog X.w X.xe _ ⟨.bl _, H, I, rfl, q⟩
/-- 'a' * n -/
def rMulS : R2 := fun x y H Q => ∃ (z : Str) (n : Nat), x = .str z ∧ y = .int (n : Int) ∧ z.length ≤ 1000 ∧ n ≤ 1000 ∧ Q (.str (Txt.mul z n)) H
theorem op_mulS : OpR X (binaryOp .Mult) rMulS := by
  intro pins s σ H x y v u Q I rx ry h
  obtain ⟨z, n, rfl, rfl, h1, h2, q⟩ := h
  obtain ⟨t, rfl⟩ := rx
  obtain ⟨t2, rfl⟩ := ry
  exact SB.mul (mulOk_of 1000 1000 h1 (by omega) (by omega) (by decide) (by decide)) fun t' k => ⟨.str _, H, I.tok k, ⟨t', rfl⟩, q⟩
/-- repr of a bool -/
def boolText (b : Bool) : Str := if b then "True" else "False"
theorem call_reprB : CallR X (.builtin "repr") (fun xs H Q => ∃ b, xs = [.bl b] ∧ Q (.str (boolText b)) H) := by
  intro pins s σ H xs us Q I r h
  obtain ⟨b, rfl, q⟩ := h
  obtain ⟨u, rfl, ru⟩ := vals1 r
  cases ru
  refine P.repr_of_bool ⟨.str (boolText b), H, I.tok _, ⟨s.toks, ?_⟩, q⟩
  unfold boolText
  cases b <;> rfl
end
section
variable {X : Cx} {K : PySem.W.Frag}
theorem sl_tupK (h : X.K = K := by rfl) : SlR X (rSlW K) := by
  subst h
  exact sl_tupW
def rTup (K : PySem.W.Frag) : List V → Hp → VK → Prop := fun xs H Q => ∃ p ys, xs = [.ref p] ∧ ((SqL K H p ys ∧ ∀ l, H l = none → Q (.ref l) (upd H l (.tup ys))) ∨ (SqT K H p ys ∧ Q (.ref p) H))
theorem call_tupK (h : X.K = K := by rfl) : CallR X (.type "tuple") (rTup K) := by
  subst h
  exact call_tuple_of
end
theorem boolText_inj (a b : Bool) : decide (V.str (boolText a) = V.str (boolText b)) = decide (a = b) := by
  cases a <;> cases b <;> decide +kernel
/-! ### tuples of words -/
def wt (ws : List Str) : PyData := .tuple (ws.map PyData.str)
theorem lay_words : ∀ {ws : List Str}, (∀ z ∈ ws, ∀ c ∈ z.cps.toList, c < 128) → PyData.canLayAll0 (ws.map PyData.str) = true
  | [], _ => rfl
  | z :: ws, h => by
    have h2 := lay_words fun y hy => h y (List.mem_cons_of_mem _ hy)
    have h1 : PyData.strOk z = true := by
      unfold PyData.strOk
      rw [arr_all]
      exact List.all_eq_true.mpr fun c hc => decide_eq_true (Nat.lt_trans (h z List.mem_cons_self c hc) (by decide))
    simp only [List.map_cons, PyData.canLayAll0, PyData.canLay0, h1, h2, Bool.and_self]
theorem depth_words : ∀ ws : List Str, PyData.depthAll (ws.map PyData.str) = 0
  | [] => rfl
  | z :: ws => by simp [PyData.depthAll, PyData.depth, depth_words ws]
theorem shaped_wt {ws : List Str} (h : ∀ z ∈ ws, ∀ c ∈ z.cps.toList, c < 128) : SeqAt.shaped (wt ws) = true := by
  unfold SeqAt.shaped wt
  simp only [PyData.canLay0, lay_words h, PyData.depth, depth_words]
  decide
theorem shaped_wl {ws : List Str} (h : ∀ z ∈ ws, ∀ c ∈ z.cps.toList, c < 128) : SeqAt.shaped (.list (ws.map PyData.str)) = true := by
  unfold SeqAt.shaped
  simp only [PyData.canLay0, lay_words h, PyData.depth, depth_words]
  decide
theorem eqv_words : ∀ ws us : List Str, PyData.eqvAll (ws.map PyData.str) (us.map PyData.str) = decide (ws = us)
  | [], [] => rfl
  | [], _ :: _ => rfl
  | _ :: _, [] => rfl
  | a :: ws, b :: us => by
    simp only [List.map_cons, PyData.eqvAll, eqv_words ws us, PyData.eqv]
    by_cases h1 : a = b
    · subst h1
      by_cases h2 : ws = us
      · subst h2
        simp
      · rw [decide_eq_false h2, decide_eq_false (fun e => h2 (List.cons.inj e).2), Bool.and_false]
    · have hb : (a == b) = false := beq_eq_false_iff_ne.mpr h1
      rw [decide_eq_false (fun e => h1 (List.cons.inj e).1)]
      first
        | rw [hb, Bool.false_and]
        | simp [hb, h1]
theorem eqv_wt (ws us : List Str) : PyData.eqv (wt ws) (wt us) = decide (ws = us) := by
  unfold wt
  simp only [PyData.eqv]
  exact eqv_words ws us
theorem eqv_wl (ws us : List Str) : PyData.eqv (.list (ws.map PyData.str)) (.list (us.map PyData.str)) = decide (ws = us) := by
  simp only [PyData.eqv]
  exact eqv_words ws us
/-! ### the order of addresses -/
def wordsLt : List Str → List Str → Bool
  | a :: ws, b :: us => if a = b then wordsLt ws us else decide (a.cps.toList < b.cps.toList)
  | [], b => !b.isEmpty
  | _ :: _, [] => false
def keyD (ws : List Str) : PyData := .tuple [.int ws.length, wt ws]
def keyLt (ws us : List Str) : Bool := if ws.length = us.length then wordsLt ws us else decide (ws.length < us.length)
theorem alike_words : ∀ ws us : List Str, PySem.W.alikeAll (ws.map PyData.str) (us.map PyData.str) = true
  | [], _ => by simp [PySem.W.alikeAll]
  | _ :: _, [] => by simp [PySem.W.alikeAll]
  | a :: ws, b :: us => by simp [PySem.W.alikeAll, PySem.W.alike, alike_words ws us]
theorem alike_key (ws us : List Str) : PySem.W.alike (keyD ws) (keyD us) = true := by
  simp [keyD, wt, PySem.W.alike, PySem.W.alikeAll, alike_words]
theorem cps_inj {a b : Str} (h : a.cps.toList = b.cps.toList) : a = b := PySem.W.str_of_cps h
theorem lt_words : ∀ ws us : List Str, lexLt itemOrd (PySem.W.keyToksAll (ws.map PyData.str)) (PySem.W.keyToksAll (us.map PyData.str)) = wordsLt ws us
  | [], [] => by decide
  | [], b :: us => by
    simp only [List.map_nil, List.map_cons, PySem.W.keyToksAll, wordsLt]
    rw [PySem.W.lex_atom (by decide)]
    rfl
  | a :: ws, [] => by
    simp only [List.map_nil, List.map_cons, PySem.W.keyToksAll, wordsLt]
    rw [PySem.W.lex_atom (by decide)]
    rfl
  | a :: ws, b :: us => by
    have al : PySem.W.alike (.str a) (.str b) = true := by simp [PySem.W.alike]
    unfold wordsLt
    by_cases h : a = b
    · subst h
      rw [if_pos rfl, List.map_cons, List.map_cons, PySem.W.dataLt_all_yes al (by simp [PyData.eqv])]
      exact lt_words ws us
    · rw [if_neg h, List.map_cons, List.map_cons, PySem.W.dataLt_all_no al (by simp [PyData.eqv, h]), PySem.W.dataLt_str]
theorem wordsLt_self : ∀ ws : List Str, wordsLt ws ws = false
  | [] => rfl
  | a :: ws => by
    unfold wordsLt
    rw [if_pos rfl]
    exact wordsLt_self ws
theorem lt_key (ws us : List Str) : PySem.W.dataLt (keyD ws) (keyD us) = keyLt ws us := by
  unfold keyD keyLt
  rw [PySem.W.dataLt_tuple]
  have al : PySem.W.alike (.int (ws.length : Int)) (.int (us.length : Int)) = true := by simp [PySem.W.alike]
  have al2 : PySem.W.alike (wt ws) (wt us) = true := by simp [wt, PySem.W.alike, alike_words]
  by_cases h : ws.length = us.length
  · rw [if_pos h, PySem.W.dataLt_all_yes al (by simp [PyData.eqv, h])]
    by_cases h2 : ws = us
    · subst h2
      rw [PySem.W.dataLt_all_yes al2 (by rw [eqv_wt]; simp)]
      rw [wordsLt_self]
      decide
    · rw [PySem.W.dataLt_all_no al2 (by rw [eqv_wt]; exact decide_eq_false h2)]
      unfold wt
      rw [PySem.W.dataLt_tuple]
      exact lt_words ws us
  · rw [if_neg h, PySem.W.dataLt_all_no al (by simp [PyData.eqv]; omega), PySem.W.dataLt_int]
    by_cases h3 : ws.length < us.length
    · rw [decide_eq_true h3, decide_eq_true (by omega)]
    · rw [decide_eq_false h3, decide_eq_false (by omega)]
end Ld
/-! The least words, one behind the other. -/
namespace Ld
open PySem L2 PyProof.Rows
def abcS : Str := Str.ofString "abcdefghijklmnopqrstuvwxyz"
def lastOf (z : Str) : Nat := z.cps.toList.getLastD 0
def keptW (z : Str) : Str := Txt.rstripChars z (Str.ofString "z")
def nextW (z : Str) : Str := if z.length < 12 then z ++ Str.ofString "a" else cutS (keptW z) none (some (-1)) ++ ⟨#[lastOf (keptW z) + 1]⟩
def seqW : Nat → Str
  | 0 => Str.ofString "a"
  | i + 1 => nextW (seqW i)
/-- what the steps ask of the first forty words -/
def stepOk (z : Str) : Bool := decide (z.length ≤ 12) && (decide (z.length < 12) || (decide ((keptW z).length ≤ 12) && decide (0 < (keptW z).length) && decide (97 ≤ lastOf (keptW z)) && decide (lastOf (keptW z) < 122) &&
  decide (atI (keptW z).cps.toList (-1) = some (lastOf (keptW z))) && decide (Builtin.Str.occurrences abcS ⟨#[lastOf (keptW z)]⟩ 0 abcS.length 1 = [lastOf (keptW z) - 97]) && decide (atI abcS.cps.toList ((lastOf (keptW z) - 97 : Nat) + 1 : Int) = some (lastOf (keptW z) + 1))))
theorem steps_ok : (List.range 40).all (fun i => stepOk (seqW i)) = true := by decide +kernel
theorem step_ok {i : Nat} (h : i < 40) : stepOk (seqW i) = true := List.all_eq_true.mp steps_ok i (List.mem_range.mpr h)
theorem seq_apart : (List.range 41).all (fun i => (List.range 41).all fun j => decide (i = j) || !decide (seqW i = seqW j)) = true := by decide +kernel
theorem seq_inj {i j : Nat} (hi : i < 41) (hj : j < 41) (e : seqW i = seqW j) : i = j := by
  have h := List.all_eq_true.mp (List.all_eq_true.mp seq_apart i (List.mem_range.mpr hi)) j (List.mem_range.mpr hj)
  by_cases q : i = j
  · exact q
  · rw [decide_eq_false q, decide_eq_true e] at h
    cases h
structure Step (z : Str) : Prop where
  len : z.length ≤ 12
  far : ¬ z.length < 12 → (keptW z).length ≤ 12 ∧ atI (keptW z).cps.toList (-1) = some (lastOf (keptW z)) ∧ Builtin.Str.occurrences abcS ⟨#[lastOf (keptW z)]⟩ 0 abcS.length 1 = [lastOf (keptW z) - 97] ∧
    atI abcS.cps.toList ((lastOf (keptW z) - 97 : Nat) + 1 : Int) = some (lastOf (keptW z) + 1)
theorem step_of {i : Nat} (h : i < 40) : Step (seqW i) := by
  have q := step_ok h
  unfold stepOk at q
  simp only [Bool.and_eq_true, Bool.or_eq_true, decide_eq_true_eq] at q
  refine ⟨q.1, fun n => ?_⟩
  rcases q.2 with q | q
  · exact absurd q n
  · exact ⟨q.1.1.1.1.1.1, q.1.1.2, q.1.2, q.2⟩
theorem cutS_len {z : Str} (h : z.length ≤ 12) : (cutS z none (some (-1))).length ≤ 12 := Nat.le_trans (cutS_length z none (some (-1))) h
/-! as many different things as a list holds -/
theorem few_of {α : Type} [DecidableEq α] : ∀ (l m : List α), l.Nodup → (∀ x ∈ l, x ∈ m) → l.length ≤ m.length
  | [], _, _, _ => Nat.zero_le _
  | a :: l, m, nd, h => by
    obtain ⟨h1, h2⟩ := List.nodup_cons.mp nd
    have hm := h a List.mem_cons_self
    have q := few_of l (m.erase a) h2 fun x hx => by
      have ne : x ≠ a := fun e => h1 (e ▸ hx)
      exact (List.mem_erase_of_ne ne).mpr (h x (List.mem_cons_of_mem _ hx))
    have e := List.length_erase_of_mem hm
    have p : 0 < m.length := List.length_pos_of_mem hm
    simp only [List.length_cons]
    omega
theorem seq_nodup : ∀ n : Nat, n ≤ 41 → ((List.range n).map seqW).Nodup := fun n hn => by
  rw [List.nodup_iff_pairwise_ne, List.pairwise_map]
  have := List.nodup_range (n := n)
  rw [List.nodup_iff_pairwise_ne] at this
  refine this.imp_of_mem fun {i j} hi hj ne e => ne (seq_inj (Nat.lt_of_lt_of_le (List.mem_range.mp hi) hn) (Nat.lt_of_lt_of_le (List.mem_range.mp hj) hn) e)
/-- all words ahead of the i-th are in xs: then they are no more than xs has -/
theorem ahead_few {xs : List Str} {i : Nat} (hi : i ≤ 41) (h : ∀ j < i, seqW j ∈ xs) : i ≤ xs.length := by
  have := few_of ((List.range i).map seqW) xs (seq_nodup i hi) fun x hx => by
    obtain ⟨j, hj, rfl⟩ := List.mem_map.mp hx
    exact h j (List.mem_range.mp hj)
  simpa using this
/-- the strange word is told by what it is -/
structure Odd (xs : List Str) (m : Nat) : Prop where
  lt : m ≤ xs.length
  out : ¬ seqW m ∈ xs
  all : ∀ j < m, seqW j ∈ xs
theorem Odd.one {xs : List Str} {m n : Nat} (a : Odd xs m) (b : Odd xs n) : m = n := by
  rcases Nat.lt_trichotomy m n with h | h | h
  · exact absurd (b.all m h) a.out
  · exact h
  · exact absurd (a.all n h) b.out
end Ld
namespace K3
open PySem L2 Ld
def top (i : Nat) : Stmt := PySem.Challenge.pw_leadsever_k03_errors_and_names_of_argume.main.body.getD i (.Pass ⟨0, 0, 0, 0⟩)
abbrev sNum : Stmt := top 19
abbrev sDay : Stmt := top 20
abbrev sWord : Stmt := top 21
abbrev sAddr : Stmt := top 22
abbrev sBegins : Stmt := top 23
abbrev sRest : Stmt := top 24
abbrev sKey : Stmt := top 25
abbrev sBegs : Stmt := top 26
abbrev sStrange : Stmt := top 27
abbrev sNext : Stmt := top 28
abbrev sWell : Stmt := top 30
abbrev sDraw : Stmt := top 31
abbrev sChoose : Stmt := top 32
/-- what is left of the top -/
structure Tx (mg : Str → Option Value) : Prop where
  isi : mg "isinstance" = none
  int : mg "int" = none
  bool : mg "bool" = none
  str : mg "str" = none
  tuple : mg "tuple" = none
  list : mg "list" = none
  len : mg "len" = none
  range : mg "range" = none
  repr : mg "repr" = none
  max : mg "max" = none
  min : mg "min" = none
  set : mg "set" = none
  enum : mg "enumerate" = none
  ve : mg "ValueError" = none
  ls : ∃ t, mg "LETTERS" = some (.str abcS t)
  wl : ∃ t, mg "WORD_LETTERS" = some (.int 12 t)
  ld : ∃ t, mg "LAST_DAY" = some (.int 1000000 t)
section
variable {P : Program} {w : World} {K : PySem.W.Frag} {mg : Str → Option Value} {base : Heap} {f : Addr} {fd : FuncData}
def spNum (K : PySem.W.Frag) : Sp := fun vs H Q _ => ∃ (v : V) (d : PyData) (hi : Int), vs = [v, .int hi] ∧ Dd K H v d ∧ Q (.bl (numD hi d)) H
theorem scN : FnScope ["value", "highest"] ["value", "highest"] (defScope sNum) := ⟨rfl, rfl, rfl, by decide +kernel, rfl, by decide +kernel, by decide +kernel⟩
theorem ok_num (F : Fun K "is_number_to" "is_number_to" sNum f fd) (T : Tx mg) : FnOk P w K mg base CX0 1 f fd ["value", "highest"] (spNum K) := by
  refine F.ok scN (fun vs H Q E h => ?_) (fun cdv A outer s H vs Q E hr h => ?_)
  · obtain ⟨v, d, hi, rfl, _⟩ := h
    rfl
  · obtain ⟨v, d, hi, rfl, hT, q⟩ := h
    refine ⟨_, pss_one (ps_ret (pe_and (pe_callB (call_isa "int") (by rfl) T.isi bootN (pa_cons (pv 0) (pa_cons (pe_bltn (v := .ty "int") (by rfl) T.int (by decide +kernel) rfl) pa_nil)))
      (pe_and (pe_not (pe_callB (call_isa "bool") (by rfl) T.isi bootN (pa_cons (pv 0) (pa_cons (pe_bltn (v := .ty "bool") (by rfl) T.bool (by decide +kernel) rfl) pa_nil)))) (pe_one (pe_chain op_le op_le pe_int (pv 0) (pv 1)))))), ?_⟩
    refine ⟨_, rfl, _, rfl, _, _, hT.ty, kit_int d, _, rfl, ?_⟩
    by_cases hi1 : isIntD d = true
    · rw [hi1]
      refine iteT ⟨_, rfl, _, rfl, _, _, hT.ty, kit_bool d, _, rfl, _, rfl, ?_⟩
      cases d with
      | int i =>
        have e := hT.int_v
        subst e
        refine iteT ⟨_, rfl, _, _, rfl, rfl, _, rfl, ?_⟩
        by_cases h0 : 0 ≤ i
        · rw [decide_eq_true h0]
          refine iteT ⟨_, rfl, _, _, rfl, rfl, ?_⟩
          have e : numD hi (.int i) = decide (i ≤ hi) := by simp [numD, h0]
          rw [e] at q
          exact q
        · rw [decide_eq_false h0]
          have e : numD hi (.int i) = false := by simp [numD, h0]
          rw [e] at q
          exact iteF q
      | bool b => exact iteF q
      | none => cases hi1
      | str z => cases hi1
      | list ds => cases hi1
      | tuple ds => cases hi1
      | dict ds => cases hi1
    · have hi2 : isIntD d = false := by simpa using hi1
      rw [hi2]
      have e : numD hi d = false := by
        cases d <;> first | rfl | (simp [isIntD] at hi2)
      rw [e] at q
      exact iteF q
def spDay (K : PySem.W.Frag) : Sp := fun vs H Q _ => ∃ (v : V) (d : PyData), vs = [v] ∧ Dd K H v d ∧ Q (.bl (numD 1000000 d)) H
theorem scD : FnScope ["value"] ["value"] (defScope sDay) := ⟨rfl, rfl, rfl, by decide +kernel, rfl, by decide +kernel, by decide +kernel⟩
theorem ok_day (F : Fun K "is_day" "is_day" sDay f fd) (T : Tx mg) (D : Df P w K mg base 1 "is_number_to" ["value", "highest"] (spNum K)) : FnOk P w K mg base CX0 2 f fd ["value"] (spDay K) := by
  refine F.ok scD (fun vs H Q E h => ?_) (fun cdv A outer s H vs Q E hr h => ?_)
  · obtain ⟨v, d, rfl, _⟩ := h
    rfl
  · obtain ⟨v, d, rfl, hT, q⟩ := h
    obtain ⟨t, hl⟩ := T.ld
    refine ⟨_, pss_one (ps_ret (pe_df D hr (pa_cons (pv 0) (pa_cons (pe_glob (v := .int 1000000) (by rfl) hl ⟨_, rfl⟩) pa_nil)))), ?_⟩
    exact ⟨_, rfl, v, d, 1000000, rfl, hT, q⟩
def spWord (K : PySem.W.Frag) : Sp := fun vs H Q _ => ∃ (v : V) (d : PyData), vs = [v] ∧ Dd K H v d ∧ FitS d ∧ Q (.bl (wordD d)) H
theorem scW : FnScope ["value"] ["value"] (defScope sWord) := ⟨rfl, rfl, rfl, by decide +kernel, rfl, by decide +kernel, by decide +kernel⟩
theorem ok_word (F : Fun K "is_word" "is_word" sWord f fd) (T : Tx mg) : FnOk P w K mg base CX0 1 f fd ["value"] (spWord K) := by
  refine F.ok scW (fun vs H Q E h => ?_) (fun cdv A outer s H vs Q E hr h => ?_)
  · obtain ⟨v, d, rfl, _⟩ := h
    rfl
  · obtain ⟨v, d, rfl, hT, hf, q⟩ := h
    obtain ⟨t, hl⟩ := T.wl
    refine ⟨_, pss_cons (ps_if (PW.pt (pw_or (pt_not (pt_val (pe_callB (call_isa "str") (by rfl) T.isi bootN (pa_cons (pv 0) (pa_cons (pe_bltn (v := .ty "str") (by rfl) T.str (by decide +kernel) rfl) pa_nil)))))
        (pw_or1 (pt_not (pt_chain op_le op_le pe_int (pe_callB call_len_str (by rfl) T.len PySem.boot_len (pa_cons (pv 0) pa_nil)) (pe_glob (v := .int 12) (by rfl) hl ⟨_, rfl⟩))))))
        (pss_one (ps_ret pe_bl)) pss_nil)
      (pss_one (ps_ret (pe_and (pe_m0 PySem.F.slot_str_isascii PySem.F.type_str_isascii mt_isascii (pv 0)) (pe_and (pe_m0 PySem.F.slot_str_isalpha PySem.F.type_str_isalpha mt_isalpha (pv 0)) (pe_one (pe_m0 PySem.F.slot_str_islower PySem.F.type_str_islower mt_islower (pv 0))))))), ?_⟩
    refine ⟨_, rfl, _, rfl, _, _, hT.ty, kit_str d, _, rfl, ?_⟩
    cases d with
    | str z =>
      have e := hT.str_v
      subst e
      have hf : z.length ≤ sizeLine := (hf z rfl).size
      refine iteF ⟨_, rfl, _, rfl, hf, _, _, rfl, rfl, _, rfl, ?_⟩
      have bad : (decide (1 ≤ z.length) && decide (z.length ≤ 12)) = false → wordD (.str z) = false := fun e => by
        show wordS z = false
        unfold wordS
        rw [e, Bool.false_and]
      by_cases h1 : (1 : Int) ≤ (z.length : Int)
      · rw [decide_eq_true h1]
        refine iteT ⟨_, _, rfl, rfl, _, rfl, ?_⟩
        by_cases h2 : (z.length : Int) ≤ 12
        · rw [decide_eq_true h2]
          refine iteF ⟨_, rfl, ⟨_, rfl⟩, _, rfl, rfl, trivial, _, rfl, ?_⟩
          have e : wordD (.str z) = (Txt.isascii z && (Txt.isalpha z && Txt.islower z)) := by
            rw [lows_eq (by omega)]
            show wordS z = _
            unfold wordS
            rw [decide_eq_true (show 1 ≤ z.length by omega), decide_eq_true (show z.length ≤ 12 by omega)]
            rfl
          rw [e] at q
          cases ea : Txt.isascii z with
          | false =>
            rw [ea] at q
            exact iteF q
          | true =>
            rw [ea] at q
            refine iteT ⟨_, rfl, ⟨_, rfl⟩, _, rfl, rfl, trivial, _, rfl, ?_⟩
            cases eb : Txt.isalpha z with
            | false =>
              rw [eb] at q
              exact iteF q
            | true =>
              rw [eb] at q
              exact iteT ⟨_, rfl, ⟨_, rfl⟩, _, rfl, rfl, trivial, q⟩
        · rw [decide_eq_false h2]
          rw [bad (by rw [decide_eq_false (show ¬ z.length ≤ 12 by omega), Bool.and_false])] at q
          exact iteT q
      · rw [decide_eq_false h1]
        rw [bad (by rw [decide_eq_false (show ¬ 1 ≤ z.length by omega), Bool.false_and])] at q
        exact iteF ⟨_, rfl, iteT q⟩
    | _ => exact iteT q
def spAddr (K : PySem.W.Frag) : Sp := fun vs H Q _ => ∃ (v : V) (d : PyData), vs = [v] ∧ Dd K H v d ∧ Fits d ∧ Q (.bl (addrD d)) H
theorem scA : FnScope ["value", "word"] ["value"] (defScope sAddr) := ⟨rfl, rfl, rfl, by decide +kernel, rfl, by decide +kernel, by decide +kernel⟩
theorem all_take {ds : List PyData} {p : PyData → Bool} {i : Nat} {d : PyData} (h : ds[i]? = some d) : (ds.take (i + 1)).all p = ((ds.take i).all p && p d) := by
  rw [List.take_succ, h]
  simp
theorem ok_addr (Fd : Fun K "is_address" "is_address" sAddr f fd) (T : Tx mg) (D : Df P w K mg base 1 "is_word" ["value"] (spWord K)) : FnOk P w K mg base CX0 2 f fd ["value"] (spAddr K) := by
  refine Fd.ok scA (fun vs H Q E h => ?_) (fun cdv A outer s H vs Q E hr h => ?_)
  · obtain ⟨v, d, rfl, _⟩ := h
    rfl
  · obtain ⟨v, d, rfl, hT, hf, q⟩ := h
    refine ⟨_, pss_cons (ps_if (pt_not (pt_val (pe_callB (call_isa "tuple") (by rfl) T.isi bootN (pa_cons (pv 0) (pa_cons (pe_bltn (v := .ty "tuple") (by rfl) T.tuple (by decide +kernel) rfl) pa_nil))))) (pss_one (ps_ret pe_bl)) pss_nil)
      (pss_cons (ps_for PassesOwn.never rfl (pi_tup (pv 0)) (pg_name (i := 1) scA.nd rfl (Or.inl rfl)) (pss_one (ps_if (pt_not (pt_val (pe_df D hr (pa_cons (pv 1) pa_nil)))) (pss_one (ps_ret pe_bl)) pss_nil)))
      (pss_one (ps_ret pe_bl))), ?_⟩
    refine ⟨_, rfl, _, rfl, _, _, hT.ty, kit_tuple d, _, rfl, ?_⟩
    cases d with
    | tuple ds =>
      obtain ⟨a, xs, rfl, hs, hl, hi⟩ := hT.its
      refine iteF ⟨_, rfl, a, rfl, ⟨_, hs⟩, for_tup (K := K) (a := a) (xs := xs) (fun i σ H2 => H2 = H ∧ (∃ u, σ = [some (.ref a), u]) ∧ (ds.take i).all wordD = true) ⟨rfl, ⟨none, rfl⟩, by simp⟩ (fun i σ H2 _ h => by rw [h.1]; exact hs) ?_ ?_⟩
      · rintro i x σ H2 hx ⟨rfl, ⟨u, rfl⟩, ha⟩
        obtain ⟨d, h1, h2⟩ := hi i x hx
        refine ⟨_, rfl, x, d, rfl, h2, (hf.2 ds rfl).2 d (List.mem_of_getElem? h1), _, rfl, ?_⟩
        cases e : wordD d with
          | true =>
            refine iteF ⟨rfl, ⟨_, rfl⟩, ?_⟩
            rw [all_take h1, ha, e]
            rfl
          | false =>
            refine iteT ?_
            have e2 : addrD (.tuple ds) = false := by
              show ds.all wordD = false
              exact List.all_eq_false.mpr ⟨d, List.mem_of_getElem? h1, by rw [e]; exact Bool.false_ne_true⟩
            rw [e2] at q
            exact q
      · rintro σ H2 ⟨rfl, ⟨u, rfl⟩, ha⟩
        have e2 : addrD (.tuple ds) = true := by
          show ds.all wordD = true
          rw [hl, List.take_length] at ha
          exact ha
        rw [e2] at q
        exact q
    | _ => exact iteT q
end
section
variable {P : Program} {w : World} {K : PySem.W.Frag} {mg : Str → Option Value} {base : Heap} {f : Addr} {fd : FuncData}
/-- an address of the law's words -/
def Mw (z : Str) : Prop := z.length ≤ 12 ∧ ∀ c ∈ z.cps.toList, c < 128
def Adr (ws : List Str) : Prop := ws.length ≤ 12 ∧ ∀ z ∈ ws, Mw z
theorem Adr.asc {ws : List Str} (h : Adr ws) : ∀ z ∈ ws, ∀ c ∈ z.cps.toList, c < 128 := fun z hz => (h.2 z hz).2
theorem Adr.take {ws : List Str} (h : Adr ws) (k : Nat) : Adr (ws.take k) := ⟨Nat.le_trans (List.length_take_le' k ws) h.1, fun z hz => h.2 z (List.mem_of_mem_take hz)⟩
theorem Adr.drop {ws : List Str} (h : Adr ws) (k : Nat) : Adr (ws.drop k) := ⟨Nat.le_trans (by simp) h.1, fun z hz => h.2 z (List.mem_of_mem_drop hz)⟩
theorem cut_lo (ws : List Str) (k : Nat) : cutV (ws.map V.str) none (some (k : Int)) = (ws.take k).map V.str := by
  unfold cutV
  rw [HT.sIx_none, HT.sIx_nat, List.drop_zero, Nat.sub_zero, List.length_map, ← List.map_take]
  by_cases h : k ≤ ws.length
  · rw [Nat.min_eq_left h]
  · rw [Nat.min_eq_right (by omega), List.take_of_length_le (Nat.le_refl _), List.take_of_length_le (by omega)]
theorem cut_hi (ws : List Str) (k : Nat) : cutV (ws.map V.str) (some (k : Int)) none = (ws.drop k).map V.str := by
  unfold cutV
  rw [HT.sIx_none, HT.sIx_nat, List.length_map]
  by_cases h : k ≤ ws.length
  · rw [Nat.min_eq_left h, ← List.map_drop, List.take_of_length_le (by simp)]
  · rw [Nat.min_eq_right (by omega), ← List.map_drop, List.drop_of_length_le (Nat.le_refl _), List.drop_of_length_le (by omega)]
    simp
theorem dp_wt {H : Hp} {a : Addr} {ws : List Str} (h : SqT K H a (ws.map V.str)) : Dp K H (.ref a) (wt ws) := .tup h (dp_strs ws)
def spBegins (K : PySem.W.Frag) : Sp := fun vs H Q _ => ∃ (a b : Addr) (ws us : List Str), vs = [.ref a, .ref b] ∧ SqT K H a (ws.map V.str) ∧ SqT K H b (us.map V.str) ∧ Adr ws ∧ Adr us ∧ ∀ H', Same H H' → Q (.bl (decide (ws.take us.length = us))) H'
theorem scBegins : FnScope ["address", "beginning"] ["address", "beginning"] (defScope sBegins) := ⟨rfl, rfl, rfl, by decide +kernel, rfl, by decide +kernel, by decide +kernel⟩
theorem ok_begins (Fd : Fun K "begins" "begins" sBegins f fd) (T : Tx mg) : FnOk P w K mg base CX0 1 f fd ["address", "beginning"] (spBegins K) := by
  refine Fd.ok scBegins (fun vs H Q E h => ?_) (fun cdv A outer s H vs Q E hr h => ?_)
  · obtain ⟨a, b, ws, us, rfl, _⟩ := h
    rfl
  · obtain ⟨a, b, ws, us, rfl, ha, hb, aw, au, q⟩ := h
    refine ⟨_, pss_one (ps_ret (pe_cmpR (op_eqD hr.units) (pe_callTy call_tuple_of (by rfl) T.tuple (by decide +kernel) (pa_cons (pe_slice sl_tupW (pv 0) po_none (po_some (pe_callB call_len_seq (by rfl) T.len PySem.boot_len (pa_cons (pv 1) pa_nil)))) pa_nil))
      (pe_callTy call_tuple_of (by rfl) T.tuple (by decide +kernel) (pa_cons (pv 1) pa_nil)) (nomark _))), ?_⟩
    refine ⟨_, rfl, _, rfl, b, _, rfl, .inr hb, _, rfl, a, _, rfl, ha, fun r H1 s1 h1 => ?_⟩
    rw [List.length_map, cut_lo] at h1
    refine ⟨r, _, rfl, .inr ⟨h1, ?_⟩⟩
    refine ⟨_, rfl, b, _, rfl, .inr ⟨same_T s1 hb, ?_⟩⟩
    refine ⟨_, _, dp_wt h1, dp_wt (same_T s1 hb), shaped_wt (aw.take _).asc, shaped_wt au.asc, ?_⟩
    rw [eqv_wt]
    exact q H1 s1
def spRest (K : PySem.W.Frag) : Sp := fun vs H Q _ => ∃ (a b : Addr) (ws us : List Str), vs = [.ref a, .ref b] ∧ SqT K H a (ws.map V.str) ∧ SqT K H b (us.map V.str) ∧ ∀ r H', Same H H' → SqT K H' r ((ws.drop us.length).map V.str) → Q (.ref r) H'
theorem scRest : FnScope ["address", "beginning"] ["address", "beginning"] (defScope sRest) := ⟨rfl, rfl, rfl, by decide +kernel, rfl, by decide +kernel, by decide +kernel⟩
theorem ok_rest (Fd : Fun K "rest_of" "rest_of" sRest f fd) (T : Tx mg) : FnOk P w K mg base CX0 1 f fd ["address", "beginning"] (spRest K) := by
  refine Fd.ok scRest (fun vs H Q E h => ?_) (fun cdv A outer s H vs Q E hr h => ?_)
  · obtain ⟨a, b, ws, us, rfl, _⟩ := h
    rfl
  · obtain ⟨a, b, ws, us, rfl, ha, hb, q⟩ := h
    refine ⟨_, pss_one (ps_ret (pe_callTy call_tuple_of (by rfl) T.tuple (by decide +kernel) (pa_cons (pe_callTy call_list_of (by rfl) T.list (by decide +kernel) (pa_cons (pe_slice sl_tupW (pv 0) (po_some (pe_callB call_len_seq (by rfl) T.len PySem.boot_len (pa_cons (pv 1) pa_nil))) po_none) pa_nil)) pa_nil))), ?_⟩
    refine ⟨_, rfl, _, rfl, b, _, rfl, .inr hb, _, rfl, a, _, rfl, ha, fun r H1 s1 h1 => ?_⟩
    rw [List.length_map, cut_hi] at h1
    refine ⟨r, _, rfl, .inr h1, fun l hl => ?_⟩
    refine ⟨l, _, rfl, .inl ⟨.of upd_same, fun p hp => ?_⟩⟩
    exact q p _ (s1.trans ((Ld.Same.new hl).trans (Ld.Same.new hp))) (.of upd_same)
def spKey (K : PySem.W.Frag) : Sp := fun vs H Q _ => ∃ (a : Addr) (ws : List Str), vs = [.ref a] ∧ SqT K H a (ws.map V.str) ∧ ∀ r H', Same H H' → Dp K H' (.ref r) (keyD ws) → Q (.ref r) H'
theorem scKey : FnScope ["address"] ["address"] (defScope sKey) := ⟨rfl, rfl, rfl, by decide +kernel, rfl, by decide +kernel, by decide +kernel⟩
theorem ok_key (Fd : Fun K "address_key" "address_key" sKey f fd) (T : Tx mg) : FnOk P w K mg base CX0 1 f fd ["address"] (spKey K) := by
  refine Fd.ok scKey (fun vs H Q E h => ?_) (fun cdv A outer s H vs Q E hr h => ?_)
  · obtain ⟨a, ws, rfl, _⟩ := h
    rfl
  · obtain ⟨a, ws, rfl, ha, q⟩ := h
    refine ⟨_, pss_one (ps_ret (pe_tup (pa_cons (pe_callB call_len_seq (by rfl) T.len PySem.boot_len (pa_cons (pv 0) pa_nil)) (pa_cons (pe_callTy call_tuple_of (by rfl) T.tuple (by decide +kernel) (pa_cons (pv 0) pa_nil)) pa_nil)))), ?_⟩
    refine ⟨_, rfl, a, _, rfl, .inr ha, _, rfl, a, _, rfl, .inr ⟨ha, (show 2 ≤ sizeLine by decide), fun p hp => ?_⟩⟩
    have s1 := Same.new (o := .tup [.int (((ws.map V.str).length : Nat) : Int), .ref a]) hp
    refine q p _ s1 ?_
    rw [List.length_map]
    exact .tup (.of upd_same) (.cons (.int _) (.cons (dp_wt (same_T (by rw [List.length_map] at s1; exact s1) ha)) .nil))
/-- the beginnings, as data -/
def begD (ws : List Str) (n : Nat) : List PyData := (List.range n).map fun k => wt (ws.take k)
/-- tuples that stand -/
def Tups (K : PySem.W.Frag) (H : Hp) (ps : List Addr) (ws : List Str) : Prop := ∀ (j : Nat) (p : Addr), ps[j]? = some p → SqT K H p ((ws.take j).map V.str)
theorem tups_dp {H : Hp} {ws : List Str} : ∀ {ps : List Addr} {k : Nat}, (∀ (j : Nat) (p : Addr), ps[j]? = some p → SqT K H p ((ws.take (k + j)).map V.str)) → DpAll K H (ps.map V.ref) ((List.range' k ps.length).map fun k => wt (ws.take k))
  | [], k, _ => .nil
  | p :: ps, k, h => by
    show DpAll K H (V.ref p :: ps.map V.ref) ((List.range' k (ps.length + 1)).map fun k => wt (ws.take k))
    rw [List.range'_succ, List.map_cons]
    exact .cons (dp_wt (h 0 p rfl)) (tups_dp fun j q e => by
      have := h (j + 1) q (by simpa using e)
      rw [show k + (j + 1) = k + 1 + j from by omega] at this
      exact this)
theorem tups_beg {H : Hp} {ws : List Str} {ps : List Addr} (h : Tups K H ps ws) : DpAll K H (ps.map V.ref) (begD ws ps.length) := by
  unfold begD
  rw [List.range_eq_range']
  exact tups_dp (k := 0) fun j p e => by rw [Nat.zero_add]; exact h j p e
theorem sqT_list {H : Hp} {D p : Addr} {acc acc' xs : List V} (hD : H D = some (.lst acc)) (h : SqT K H p xs) : SqT K (upd H D (.lst acc')) p xs := by
  rcases h with (h | ⟨o, h⟩) | h
  · refine .inl (.inl ?_)
    rw [upd_ne (ne_of h hD (fun e => nomatch e))]
    exact h
  · refine .inl (.inr ⟨o, ?_⟩)
    rw [upd_ne (ne_of h hD (fun e => nomatch e))]
    exact h
  · exact .inr h
def spBegs (K : PySem.W.Frag) : Sp := fun vs H Q _ => ∃ (a : Addr) (ws : List Str), vs = [.ref a] ∧ SqT K H a (ws.map V.str) ∧ ws.length ≤ 12 ∧ ∀ (r : Addr) (ps : List Addr) H', Same H H' → H r = none → H' r = some (.lst (ps.map V.ref)) → ps.length = ws.length + 1 → Tups K H' ps ws → Q (.ref r) H'
theorem scBegs : FnScope ["address", "size"] ["address"] (defScope sBegs) := ⟨rfl, rfl, rfl, by decide +kernel, rfl, by decide +kernel, by decide +kernel⟩
theorem ok_begs (Fd : Fun K "beginnings" "beginnings" sBegs f fd) (T : Tx mg) : FnOk P w K mg base CX0 1 f fd ["address"] (spBegs K) := by
  refine Fd.ok scBegs (fun vs H Q E h => ?_) (fun cdv A outer s H vs Q E hr h => ?_)
  · obtain ⟨a, ws, rfl, _⟩ := h
    rfl
  · obtain ⟨a, ws, rfl, ha, hl, q⟩ := h
    refine ⟨_, pss_one (ps_ret (pe_lc (own := [("size", 1)]) (g := gName 1) (tt := tYes) (by rfl) scBegs.nd (pi_range1 rfl T.range (pa_cons (pe_op op_add (pe_callB call_len_seq (by rfl) T.len PySem.boot_len (pa_cons (pv 0) pa_nil)) pe_int) pa_nil))
      (blkOk_by (own := [("size", 1)]) (N := ["address", "size"]) (sc := defScope sBegs) (by decide +kernel)) (fun _ _ _ _ _ => pg_name (i := 1) scBegs.nd rfl (Or.inl rfl)) (fun _ _ _ _ _ => pts_nil)
      (fun _ _ _ _ _ => pe_callTy (T := "tuple") (r := rTup K) call_tupK (by rfl) T.tuple (by decide +kernel) (pa_cons (pe_slice (r := rSlW K) sl_tupK (pv 0) po_none (po_some (pv 1))) pa_nil)))), ?_⟩
    refine ⟨_, rfl, a, _, rfl, .inr ha, _, _, rfl, rfl, _, rfl, by omega, by rw [List.length_map]; omega, fun D hD => ?_⟩
    refine lc_range (lo := 0) (n := ((((ws.map V.str).length : Nat) : Int) + 1).toNat) (fun i G => Same H G ∧ ∃ ps : List Addr, G D = some (.lst (ps.map V.ref)) ∧ ps.length = i ∧ Tups K G ps ws) ⟨Ld.Same.new hD, [], upd_same, rfl, fun j p e => nomatch e⟩ ?_ ?_
    · rintro i G hi ⟨s1, ps, hp, hn, ht⟩
      rw [List.length_map] at hi
      refine ⟨rfl, ?_⟩
      show tCB (rTup K) (tCons (tSl (rSlW K) (tVar 0) tNoPart (tPart (tVar 1))) tNil) _ _ _
      refine ⟨_, rfl, _, rfl, _, rfl, a, _, rfl, same_T s1 ha, fun r G2 s2 h2 => ?_⟩
      rw [Int.zero_add, cut_lo] at h2
      refine ⟨r, _, rfl, .inr ⟨h2, _, s2 _ _ hp, by rw [List.length_map]; exact Nat.lt_of_le_of_lt (show ps.length ≤ 13 by omega) (by decide), fun b o e => ?_, ps ++ [r], ?_, by simp [hn], ?_⟩⟩
      · rw [upd_ne (ne_of_none e hD)]
        exact s2 _ _ (s1 b o e)
      · rw [upd_same, List.map_append]
        rfl
      · intro j p e
        by_cases hj : j < ps.length
        · rw [List.getElem?_append_left hj] at e
          exact sqT_list (s2 _ _ hp) (same_T s2 (ht j p e))
        · have hj2 : j = ps.length := by
            have := (List.getElem?_eq_some_iff.mp e).1
            simp at this
            omega
          subst hj2
          rw [List.getElem?_append_right (Nat.le_refl _), Nat.sub_self] at e
          cases e
          rw [hn]
          exact sqT_list (s2 _ _ hp) h2
    · rintro G ⟨s1, ps, hp, hn, ht⟩
      rw [List.length_map] at hn
      have e : ps.length = ws.length + 1 := by omega
      exact q D ps G s1 hD hp e ht
def spNext : Sp := fun vs H Q _ => ∃ i : Nat, vs = [.str (seqW i)] ∧ i < 40 ∧ Q (.str (seqW (i + 1))) H
theorem scNext : FnScope ["word", "kept"] ["word"] (defScope sNext) := ⟨rfl, rfl, rfl, by decide +kernel, rfl, by decide +kernel, by decide +kernel⟩
theorem one_a : (⟨#[97]⟩ : Str) = Str.ofString "a" := by decide +kernel
theorem one_z : (⟨#[122]⟩ : Str) = Str.ofString "z" := by decide +kernel
theorem abc_0 : atI abcS.cps.toList 0 = some 97 := by decide +kernel
theorem abc_1 : atI abcS.cps.toList (-1) = some 122 := by decide +kernel
theorem abc_len : abcS.length ≤ sizeLine := by decide +kernel
theorem next_near {z : Str} (h : z.length < 12) : nextW z = z ++ Str.ofString "a" := if_pos h
theorem next_far {z : Str} (h : ¬ z.length < 12) : nextW z = cutS (keptW z) none (some (-1)) ++ ⟨#[lastOf (keptW z) + 1]⟩ := if_neg h
theorem a_len : (Str.ofString "a").length = 1 := by decide +kernel
theorem ok_next (Fd : Fun K "_next_word" "_next_word" sNext f fd) (T : Tx mg) : FnOk P w K mg base CX0 1 f fd ["word"] spNext := by
  refine Fd.ok scNext (fun vs H Q E h => ?_) (fun cdv A outer s H vs Q E hr h => ?_)
  · obtain ⟨i, rfl, _⟩ := h
    rfl
  · obtain ⟨i, rfl, hi, q⟩ := h
    obtain ⟨t1, hl⟩ := T.ls
    obtain ⟨t2, hw⟩ := T.wl
    have S := step_of hi
    have q : Q (.str (nextW (seqW i))) H := q
    generalize seqW i = z at S q
    refine ⟨_, pss_cons (ps_if (pt_cmpR op_lt (pe_callB call_len_str (by rfl) T.len PySem.boot_len (pa_cons (pv 0) pa_nil)) (pe_glob (v := .int 12) (by rfl) hw ⟨_, rfl⟩) (nomark _))
        (pss_one (ps_ret (pe_op op_add_str (pv 0) (pe_ix ix_str (pe_glob (v := .str abcS) (by rfl) hl ⟨_, rfl⟩) pe_int (fun _ _ => rfl))))) pss_nil)
      (pss_cons (ps_set (i := 1) scNext.nd rfl (Or.inl rfl) (pe_m1 PySem.F.slot_str_rstrip PySem.F.type_str_rstrip mt_rstripChars (pv 0) (pe_ix ix_str (pe_glob (v := .str abcS) (by rfl) hl ⟨_, rfl⟩) (pe_un un_neg pe_int) (fun _ _ => rfl))))
      (pss_one (ps_ret (pe_op op_add_str (pe_slice sl_str (pv 1) po_none (po_some (pe_un un_neg pe_int))) (pe_ix ix_str (pe_glob (v := .str abcS) (by rfl) hl ⟨_, rfl⟩) (pe_op op_add (pe_m1 PySem.F.slot_str_index PySem.F.type_str_index mt_sindex
          (pe_glob (v := .str abcS) (by rfl) hl ⟨_, rfl⟩) (pe_ix ix_str (pv 1) (pe_un un_neg pe_int) (fun _ _ => rfl))) pe_int) (fun _ _ => rfl)))))), ?_⟩
    have big : z.length ≤ sizeLine := Nat.le_trans S.len (by decide)
    refine ⟨_, rfl, _, rfl, big, _, _, rfl, rfl, _, rfl, ?_⟩
    by_cases hz : (z.length : Int) < 12
    · rw [decide_eq_true hz]
      refine iteT ⟨_, rfl, _, _, _, rfl, rfl, abc_len, abc_0, ?_⟩
      rw [one_a]
      refine ⟨_, _, rfl, rfl, ?_, ?_⟩
      · have := S.len
        rw [a_len, sizeLine_eq]
        omega
      · rw [next_near (by omega)] at q
        exact q
    · rw [decide_eq_false hz]
      have hz : ¬ z.length < 12 := by omega
      obtain ⟨k1, k2, k3, k4⟩ := S.far hz
      have kbig : (keptW z).length ≤ sizeLine := Nat.le_trans k1 (by decide)
      refine iteF ⟨_, rfl, ⟨_, rfl⟩, _, rfl, _, _, _, rfl, rfl, abc_len, abc_1, ?_⟩
      rw [one_z]
      refine ⟨_, _, rfl, rfl, big, ?_⟩
      refine ⟨_, rfl, _, rfl, _, rfl, _, rfl, kbig, ⟨_, rfl⟩, _, rfl, _, rfl, _, _, _, rfl, rfl, kbig, k2, ?_⟩
      refine ⟨_, _, _, [], rfl, rfl, k3, _, _, rfl, rfl, _, _, _, rfl, rfl, abc_len, k4, ?_⟩
      refine ⟨_, _, rfl, rfl, ?_, ?_⟩
      · have := cutS_len k1
        have e : (⟨#[lastOf (keptW z) + 1]⟩ : Str).length = 1 := rfl
        rw [e, sizeLine_eq]
        exact Nat.le_trans (Nat.add_le_add_right this 1) (by decide)
      · rw [next_far hz] at q
        exact q
end
section
variable {P : Program} {w : World} {K : PySem.W.Frag} {mg : Str → Option Value} {base : Heap} {f : Addr} {fd : FuncData}
def spStrange (K : PySem.W.Frag) : Sp := fun vs H Q _ => ∃ (a : Addr) (xs : List Str), vs = [.ref a] ∧ (SqL K H a (xs.map V.str) ∨ SqT K H a (xs.map V.str)) ∧ xs.length ≤ 39 ∧ ∀ m H', Odd xs m → Same H H' → Q (.str (seqW m)) H'
theorem scStrange : FnScope ["words", "taken", "word"] ["words"] (defScope sStrange) := ⟨rfl, rfl, rfl, by decide +kernel, rfl, by decide +kernel, by decide +kernel⟩
theorem ok_strange (Fd : Fun K "strange_word" "strange_word" sStrange f fd) (T : Tx mg) (N : Df P w K mg base 1 "_next_word" ["word"] spNext) : FnOk P w K mg base CX0 2 f fd ["words"] (spStrange K) := by
  refine Fd.ok scStrange (fun vs H Q E h => ?_) (fun cdv A outer s H vs Q E hr h => ?_)
  · obtain ⟨a, xs, rfl, _⟩ := h
    rfl
  · obtain ⟨a, xs, rfl, hx, hl, q⟩ := h
    obtain ⟨t1, hg⟩ := T.ls
    refine ⟨_, pss_cons (ps_set (i := 1) scStrange.nd rfl (Or.inl rfl) (pe_callTy (cr_setS rfl) (by rfl) T.set (by decide +kernel) (pa_cons (pv 0) pa_nil)))
      (pss_cons (ps_set (i := 2) scStrange.nd rfl (Or.inl rfl) (pe_ix ix_str (pe_glob (v := .str abcS) (by rfl) hg ⟨_, rfl⟩) pe_int (fun _ _ => rfl)))
      (pss_cons (ps_while PassesOwn.never (pt_cmpR op_inWords (pv 2) (pv 1) (by rfl)) (pss_one (ps_set (i := 2) scStrange.nd rfl (Or.inl rfl) (pe_df N hr (pa_cons (pv 2) pa_nil)))))
      (pss_one (ps_ret (pv 2))))), ?_⟩
    refine ⟨_, rfl, a, xs, rfl, hx, Nat.le_trans hl (by decide), fun p G s1 ws => ?_⟩
    refine ⟨_, _, _, rfl, rfl, abc_len, abc_0, ?_⟩
    rw [one_a]
    refine ⟨fun m σ G2 => G2 = G ∧ ∃ i, m + i = 40 ∧ (∀ j < i, seqW j ∈ xs) ∧ σ = [some (.ref a), some (.ref p), some (.str (seqW i))], ⟨40, rfl, 0, rfl, (fun j hj => absurd hj (Nat.not_lt_zero j)), rfl⟩, ?_⟩
    rintro m σ G2 ⟨rfl, i, hm, hall, rfl⟩
    have hi := ahead_few (by omega) hall
    refine ⟨_, rfl, _, rfl, _, p, xs, rfl, rfl, ws, _, rfl, ?_⟩
    by_cases hin : seqW i ∈ xs
    · rw [decide_eq_true hin]
      refine iteT ⟨fun σ' G' => G' = G2 ∧ σ' = [some (.ref a), some (.ref p), some (.str (seqW (i + 1)))], fun σ' G' ⟨e1, e2⟩ => ⟨m - 1, by omega, e1, i + 1, by omega, fun j hj => ?_, e2⟩, ?_⟩
      · by_cases h : j = i
        · rw [h]
          exact hin
        · exact hall j (by omega)
      · exact ⟨_, rfl, i, rfl, by omega, rfl, rfl⟩
    · rw [decide_eq_false hin]
      exact iteF ⟨_, rfl, q i G2 ⟨hi, hin, hall⟩ s1⟩
end
section
variable {P : Program} {w : World} {K : PySem.W.Frag} {mg : Str → Option Value} {base : Heap} {f : Addr} {fd : FuncData}
def spWell (K : PySem.W.Frag) : Sp := fun vs H Q _ => ∃ (a : Addr) (ns : List Int) (j : Int) (B : Nat), vs = [.ref a, .int j] ∧ SqL K H a (ns.map V.int) ∧ ns.length ≤ 63 ∧ 60 ≤ B ∧ B ≤ 2000000 ∧ (∀ z ∈ ns, Builtin.Int.intBits z ≤ B) ∧ 0 ≤ j ∧ j < 100 ∧
  ∀ wa H', H wa = none → Well H' wa → Same H H' → Q (.ref wa) H'
theorem scWell : FnScope ["_law_script", "_law_start", "_law_mixed", "_law_entry", "_law_digits"] ["_law_script", "_law_start"] (defScope sWell) := ⟨rfl, rfl, rfl, by decide +kernel, rfl, by decide +kernel, by decide +kernel⟩
theorem ok_well (Fd : Fun K "_law_well" "_law_well" sWell f fd) (T : Tx mg) : FnOk P w K mg base CX0 1 f fd ["_law_script", "_law_start"] (spWell K) := by
  refine Fd.ok scWell (fun vs H Q E h => ?_) (fun cdv A outer s H vs Q E hr h => ?_)
  · obtain ⟨a, ns, j, B, rfl, _⟩ := h
    rfl
  · obtain ⟨a, ns, j, B, rfl, hS, hlen, hB, hB2, hb, hj0, hj, q⟩ := h
    refine ⟨_, pss_cons (ps_set (i := 2) scWell.nd rfl (Or.inl rfl) (pe_op op_add pe_int (pe_op op_mul (pv 1) pe_int)))
      (pss_cons (ps_for PassesOwn.never rfl (pi_list (pv 0)) (pg_name (i := 3) scWell.nd rfl (Or.inl rfl))
        (pss_one (ps_set (i := 2) scWell.nd rfl (Or.inl rfl) (pe_op op_add (pe_op op_mod (pe_callTy call_int1 (by rfl) T.int (by decide +kernel) (pa_cons (pe_op op_powB (pe_op op_add (pe_op op_add (pe_op op_mulB (pv 2) pe_int) (pe_op op_mulB (pv 3) (pv 3))) pe_int) pe_int) pa_nil)) pe_int) pe_int))))
      (pss_cons (ps_set (i := 4) scWell.nd rfl (Or.inl rfl) (pe_ifExp (PW.pt (pw_and (pt_cmpR op_lt (pv 1) (pe_callB call_len_seq (by rfl) T.len PySem.boot_len (pa_cons (pv 0) pa_nil)) (nomark _))
          (pw_and1 (pt_cmpR op_ge (pe_ix ix_list (pv 0) (pv 1) (fun _ _ => rfl)) (pe_op op_pow pe_int pe_int) (nomark _)))))
          (pe_op op_sub (pe_ix ix_list (pv 0) (pv 1) (fun _ _ => rfl)) (pe_op op_pow pe_int pe_int)) pe_int))
      (pss_one (ps_ret (pe_disp (pps_cons pe_str (pv 4) (pps_cons pe_str (pv 2) pps_nil)) (by rfl) (by rfl) (fun z => by cases z) (by decide)))))), ?_⟩
    refine ⟨_, rfl, _, _, rfl, rfl, .inr ⟨by decide, by decide⟩, _, _, rfl, rfl, ?_⟩
    refine ⟨_, rfl, a, rfl, ⟨_, hS⟩, for_list (K := K) (a := a) (xs := ns.map V.int) (fun i σ H2 => H2 = H ∧ ∃ (m : Int) (u : Option V), σ = [some (.ref a), some (.int j), some (.int m), u, none] ∧ 0 ≤ m ∧ m < 2 ^ 40)
      ⟨rfl, _, none, rfl, by omega, by omega⟩ (fun i σ H2 _ h => by rw [h.1]; exact hS) ?_ ?_⟩
    · rintro i y σ H2 hi ⟨rfl, m, u, rfl, h0, h1⟩
      obtain ⟨z, hz, rfl⟩ := list_get hi
      have bz := hb z (List.mem_of_getElem? hz)
      have hm := mul_small (c := 70019) h0 h1 (by decide) (by decide)
      have hw := sq_wide (of_bits bz) hm hB
      have hbw := bits_of hw
      refine ⟨_, rfl, _, _, rfl, rfl, ?_, _, rfl, _, rfl, _, _, rfl, rfl, ?_, _, _, rfl, rfl, _, _, rfl, rfl, _, _, rfl, rfl, ?_, .inl ⟨_, rfl, _, _, rfl, rfl, (show (0 : Int) < 2147483489 by decide), _, _, rfl, rfl, ?_⟩⟩
      · have := bits_small h0 h1
        show Builtin.Int.intBits m + Builtin.Int.intBits 70019 ≤ 2 ^ 27
        have e : Builtin.Int.intBits 70019 ≤ 17 := by decide +kernel
        omega
      · show Builtin.Int.intBits z + Builtin.Int.intBits z ≤ 2 ^ 27
        omega
      · refine ⟨by decide, ?_⟩
        omega
      · refine ⟨rfl, _, _, rfl, ?_, ?_⟩
        · have := Int.emod_nonneg ((m * 70019 + z * z + 59) ^ (2 : Int).toNat) (show (2147483489 : Int) ≠ 0 by decide)
          omega
        · have := Int.emod_lt_of_pos ((m * 70019 + z * z + 59) ^ (2 : Int).toNat) (show (0 : Int) < 2147483489 by decide)
          omega
    · rintro σ H2 ⟨rfl, m, u, rfl, h0, h1⟩
      have last : ∀ dg : Int, 0 ≤ dg → tDisp [((fun σ H Q => Q (V.str "digits") H : TE), (tVar 4 : TE)), ((fun σ H Q => Q (V.str "mixed") H : TE), (tVar 2 : TE))] [some (.ref a), some (.int j), some (.int m), u, some (.int dg)] H2 Q := fun dg hd => by
        intro p hp
        refine ⟨_, rfl, _, rfl, upd_same, [(kd, V.int dg), (km, V.int m)], rfl, (show 2 ≤ 15 by decide), ?_⟩
        refine q p _ hp ⟨dg, m, by rw [upd_same, merge_well], hd, h0, h1⟩ fun b o e => ?_
        rw [upd_ne (ne_of_none e hp), upd_ne (ne_of_none e hp)]
        exact e
      refine ⟨_, rfl, _, rfl, a, _, rfl, .inl hS, _, _, rfl, rfl, _, rfl, ?_⟩
      by_cases hjl : j < (((ns.map V.int).length : Nat) : Int)
      · rw [decide_eq_true hjl]
        rw [List.length_map] at hjl
        obtain ⟨z, hz⟩ : ∃ z, ns[j.toNat]? = some z := ⟨ns[j.toNat]'(by omega), List.getElem?_eq_getElem _⟩
        have hat : atI (ns.map V.int) j = some (.int z) := at_of (j := j.toNat) (by omega) (by rw [List.getElem?_map, hz]; rfl)
        have cp : CPow 10 18 := ⟨by decide, by decide, by decide⟩
        refine iteT ⟨_, rfl, _, rfl, a, _, _, _, rfl, rfl, hS, hat, _, _, rfl, rfl, cp, _, _, rfl, rfl, _, rfl, ?_⟩
        by_cases hz2 : (10 : Int) ^ (18 : Int).toNat ≤ z
        · rw [decide_eq_true hz2]
          exact iteT ⟨_, rfl, _, rfl, a, _, _, _, rfl, rfl, hS, hat, _, _, rfl, rfl, cp, _, _, rfl, rfl, last _ (by omega)⟩
        · rw [decide_eq_false hz2]
          exact iteF (last 0 (by decide))
      · rw [decide_eq_false hjl]
        exact iteF (last 0 (by decide))
def spDraw : Sp := fun vs H Q _ => ∃ (wa : Addr) (n : Int), vs = [.ref wa, .int n] ∧ Well H wa ∧ 0 < n ∧ n < 1073741824 ∧ ∀ (k : Int) H', 0 ≤ k → k < n → Well H' wa → Sb wa H H' → Q (.int k) H'
theorem scDraw : FnScope ["_law_well_here", "_law_many", "_law_found"] ["_law_well_here", "_law_many"] (defScope sDraw) := ⟨rfl, rfl, rfl, by decide +kernel, rfl, by decide +kernel, by decide +kernel⟩
theorem ok_draw (Fd : Fun K "_law_draw" "_law_draw" sDraw f fd) (T : Tx mg) : FnOk P w K mg base CX0 1 f fd ["_law_well_here", "_law_many"] spDraw := by
  refine Fd.ok scDraw (fun vs H Q E h => ?_) (fun cdv A outer s H vs Q E hr h => ?_)
  · obtain ⟨wa, n, rfl, _⟩ := h
    rfl
  · obtain ⟨wa, n, rfl, ⟨d, m, hw, hd, hm0, hm1⟩, hn0, hn1, q⟩ := h
    have hu := hu_of hr
    refine ⟨_, pss_cons (ps_if (pt_cmpR op_ge (pe_dget hu (pv 0) pe_str (fun _ _ => rfl)) (pv 1) (nomark _))
        (pss_cons (ps_set (i := 2) scDraw.nd rfl (Or.inl rfl) (pe_op op_mod (pe_callTy call_int1 (by rfl) T.int (by decide +kernel) (pa_cons (pe_dget hu (pv 0) pe_str (fun _ _ => rfl)) pa_nil)) (pv 1)))
        (pss_cons (ps_dput hu (pv 0) pe_str (pe_op op_fdiv (pe_dget hu (pv 0) pe_str (fun _ _ => rfl)) (pv 1)) rfl)
        (pss_one (ps_ret (pv 2))))) pss_nil)
      (pss_cons (ps_dput hu (pv 0) pe_str (pe_op op_mod (pe_callTy call_int1 (by rfl) T.int (by decide +kernel) (pa_cons (pe_op op_add (pe_op op_mul (pe_dget hu (pv 0) pe_str (fun _ _ => rfl)) pe_int) pe_int) pa_nil)) pe_int) rfl)
      (pss_one (ps_ret (pe_op op_mod (pe_op op_fdiv (pe_op op_mod (pe_callTy call_int1 (by rfl) T.int (by decide +kernel) (pa_cons (pe_op op_pow (pe_op op_mod (pe_callTy call_int1 (by rfl) T.int (by decide +kernel) (pa_cons (pe_op op_pow (pe_dget hu (pv 0) pe_str (fun _ _ => rfl)) pe_int) pa_nil)) pe_int) pe_int) pa_nil)) pe_int) pe_int) (pv 1))))), ?_⟩
    have gd : ∀ {H2 : Hp} {d m : Int}, H2 wa = some (.dK (wellKv d m)) → DGet H2 wa (.str "digits") (some (.int d)) := fun {H2 d m} h => by
      have z := DGet.k (k := kd) h
      rw [well_dig] at z
      exact z
    have gm : ∀ {H2 : Hp} {d m : Int}, H2 wa = some (.dK (wellKv d m)) → DGet H2 wa (.str "mixed") (some (.int m)) := fun {H2 d m} h => by
      have z := DGet.k (k := km) h
      rw [well_mix] at z
      exact z
    refine ⟨_, rfl, wa, _, rfl, gd hw, _, rfl, _, _, rfl, rfl, _, rfl, ?_⟩
    by_cases hdn : n ≤ d
    · rw [decide_eq_true hdn]
      refine iteT ⟨_, rfl, wa, _, rfl, gd hw, .inl ⟨_, rfl, _, rfl, _, _, rfl, rfl, hn0, ?_⟩⟩
      refine ⟨_, rfl, wa, _, rfl, gd hw, _, rfl, _, _, rfl, rfl, ⟨hn0, hn1⟩, _, rfl, wa, _, rfl, DPut.k (k := kd) hw (show 2 < sizeLine by decide), _, rfl, ?_⟩
      rw [put_dig]
      exact q _ _ (Int.emod_nonneg _ (by omega)) (Int.emod_lt_of_pos _ hn0) ⟨_, m, upd_same, Int.ediv_nonneg hd (by omega), hm0, hm1⟩ (.put wa H _)
    · rw [decide_eq_false hdn]
      have m0 := Int.emod_nonneg (m * 44111 + 5903) (show (2147483647 : Int) ≠ 0 by decide)
      have m1 := Int.emod_lt_of_pos (m * 44111 + 5903) (show (0 : Int) < 2147483647 by decide)
      refine iteF ⟨_, rfl, wa, _, rfl, gm hw, _, _, rfl, rfl, .inr ⟨by decide, by decide⟩, _, _, rfl, rfl, .inl ⟨_, rfl, _, _, rfl, rfl, (show (0 : Int) < 2147483647 by decide), _, rfl, wa, _, rfl, DPut.k (k := km) hw (show 2 < sizeLine by decide), ?_⟩⟩
      rw [put_mix]
      generalize (m * 44111 + 5903) % 2147483647 = m' at m0 m1
      have n0 := Int.emod_nonneg (m' ^ (2 : Int).toNat) (show (2147483549 : Int) ≠ 0 by decide)
      have n1 := Int.emod_lt_of_pos (m' ^ (2 : Int).toNat) (show (0 : Int) < 2147483549 by decide)
      refine ⟨_, rfl, wa, _, rfl, gm upd_same, _, _, rfl, rfl, ⟨by decide, by decide, by omega⟩, .inl ⟨_, rfl, _, _, rfl, rfl, (show (0 : Int) < 2147483549 by decide), ?_⟩⟩
      generalize m' ^ (2 : Int).toNat % 2147483549 = k at n0 n1
      refine ⟨_, _, rfl, rfl, ⟨by decide, by decide, by omega⟩, .inl ⟨_, rfl, _, _, rfl, rfl, (show (0 : Int) < 1000000021 by decide), _, _, rfl, rfl, ⟨by decide, by decide⟩, _, rfl, _, _, rfl, rfl, hn0, ?_⟩⟩
      exact q _ _ (Int.emod_nonneg _ (by omega)) (Int.emod_lt_of_pos _ hn0) ⟨d, m', upd_same, hd, m0, by omega⟩ (.put wa H _)
def spChoose (K : PySem.W.Frag) : Sp := fun vs H Q _ => ∃ (wa la : Addr) (xs : List V), vs = [.ref wa, .ref la] ∧ Well H wa ∧ SqL K H la xs ∧ xs ≠ [] ∧ xs.length ≤ 1000 ∧ ∀ v H', v ∈ xs → Well H' wa → Sb wa H H' → Q v H'
theorem scChoose : FnScope ["_law_well_here", "_law_things"] ["_law_well_here", "_law_things"] (defScope sChoose) := ⟨rfl, rfl, rfl, by decide +kernel, rfl, by decide +kernel, by decide +kernel⟩
theorem ok_choose (Fd : Fun K "_law_choose" "_law_choose" sChoose f fd) (T : Tx mg) (D : Df P w K mg base 1 "_law_draw" ["_law_well_here", "_law_many"] spDraw) : FnOk P w K mg base CX0 2 f fd ["_law_well_here", "_law_things"] (spChoose K) := by
  refine Fd.ok scChoose (fun vs H Q E h => ?_) (fun cdv A outer s H vs Q E hr h => ?_)
  · obtain ⟨wa, la, xs, rfl, _⟩ := h
    rfl
  · obtain ⟨wa, la, xs, rfl, hw, hS, hne, hlen, q⟩ := h
    refine ⟨_, pss_one (ps_ret (pe_ix ix_list (pv 1) (pe_df D hr (pa_cons (pv 0) (pa_cons (pe_callB call_len_seq (by rfl) T.len PySem.boot_len (pa_cons (pv 1) pa_nil)) pa_nil))) (fun _ _ => rfl))), ?_⟩
    have hl : 0 < xs.length := List.length_pos_iff.mpr hne
    refine ⟨_, rfl, _, rfl, _, rfl, la, xs, rfl, .inl hS, wa, _, rfl, hw, by omega, by omega, fun k H' h0 h1 W' s' => ?_⟩
    obtain ⟨v, hv⟩ : ∃ v, xs[k.toNat]? = some v := ⟨xs[k.toNat]'(by omega), List.getElem?_eq_getElem _⟩
    exact ⟨la, xs, _, v, rfl, rfl, seqL hw s' hS, at_of (j := k.toNat) (by omega) hv, q v H' (List.mem_of_getElem? hv) W' s'⟩
end
end K3
namespace K3
open PySem L2 Ld
abbrev sAny : Stmt := top 33
/-- any of the menu -/
def AnyD (K : PySem.W.Frag) (H : Hp) (v : V) : Prop := ∃ d, Dd K H v d ∧ Part d ∧ Fits d
theorem AnyD.sb {K : PySem.W.Frag} {H H' : Hp} {wa : Addr} {v : V} (W : Well H wa) (s : Sb wa H H') (h : AnyD K H v) : AnyD K H' v := by
  obtain ⟨d, h1, h2⟩ := h
  exact ⟨d, h1.sb W s, h2⟩
theorem AnyD.same {K : PySem.W.Frag} {H H' : Hp} {v : V} (s : Same H H') (h : AnyD K H v) : AnyD K H' v := by
  obtain ⟨d, h1, h2⟩ := h
  exact ⟨d, h1.same s, h2⟩
section
variable {K : PySem.W.Frag} {H : Hp}
theorem anyd_int (i : Int) (h : partB (.int i) = true) : AnyD K H (.int i) := ⟨_, .int i, part_of h, (part_of h).fits (fun _ e => by cases e)⟩
theorem anyd_str (z : Str) (h : ascB z = true) : AnyD K H (.str z) := ⟨_, .str z, part_str (asc_of h), (part_str (asc_of h)).fits (fun _ e => by cases e)⟩
theorem anyd_non : AnyD K H .non := ⟨_, .non, part_of (by decide +kernel), (part_of (by decide +kernel)).fits (fun _ e => by cases e)⟩
theorem anyd_bl (b : Bool) : AnyD K H (.bl b) := ⟨_, .bl b, part_of (by cases b <;> decide +kernel), (part_of (d := .bool b) (by cases b <;> decide +kernel)).fits (fun _ e => by cases e)⟩
theorem anyd_tup {v : V} {ds : List PyData} (h : Dd K H v (.tuple ds)) (p : partB (.tuple ds) = true) (q : ds.all partB = true) (hn : ds.length ≤ 1000) : AnyD K H v :=
  ⟨_, h, part_of p, fits_tuple (fun d h => part_of (List.all_eq_true.mp q d h)) hn⟩
theorem anyd_lst {v : V} {ds : List PyData} (h : Dd K H v (.list ds)) (p : partB (.list ds) = true) : AnyD K H v := ⟨_, h, part_of p, fits_list⟩
theorem anyd_dct {v : V} {ds : List (PyData × PyData)} (h : Dd K H v (.dict ds)) (p : partB (.dict ds) = true) : AnyD K H v := ⟨_, h, part_of p, (part_of p).fits (fun _ e => by cases e)⟩
end
theorem small_ints : (List.range 99).all (fun n => partB (.int (n : Int))) = true := by decide +kernel
theorem small_int {k : Int} (h0 : 0 ≤ k) (h1 : k < 99) : partB (.int k) = true := by
  obtain ⟨n, rfl⟩ := Int.eq_ofNat_of_zero_le h0
  exact List.all_eq_true.mp small_ints n (List.mem_range.mpr (by omega))
section
variable {P : Program} {w : World} {K : PySem.W.Frag} {mg : Str → Option Value} {base : Heap} {f : Addr} {fd : FuncData}
def spAny (K : PySem.W.Frag) : Sp := fun vs H Q _ => ∃ wa : Addr, vs = [.ref wa] ∧ Well H wa ∧ ∀ v H', AnyD K H' v → Well H' wa → Sb wa H H' → Q v H'
theorem scAny : FnScope ["_law_well_here", "_law_some"] ["_law_well_here"] (defScope sAny) := ⟨rfl, rfl, rfl, by decide +kernel, rfl, by decide +kernel, by decide +kernel⟩
theorem ok_any (Fd : Fun K "_law_any" "_law_any" sAny f fd) (T : Tx mg) (D : Df P w K mg base 1 "_law_draw" ["_law_well_here", "_law_many"] spDraw) (C : Df P w K mg base 2 "_law_choose" ["_law_well_here", "_law_things"] (spChoose K)) :
    FnOk P w K mg base CX0 3 f fd ["_law_well_here"] (spAny K) := by
  refine Fd.ok scAny (fun vs H Q E h => ?_) (fun cdv A outer s H vs Q E hr h => ?_)
  · obtain ⟨wa, rfl, _⟩ := h
    rfl
  · obtain ⟨wa, rfl, hw, q⟩ := h
    refine ⟨_, pss_cons (ps_set (i := 1) scAny.nd rfl (Or.inl rfl) (pe_lst (pa_cons pe_int (pa_cons pe_int (pa_cons (pe_un un_neg pe_int) (pa_cons (pe_op op_pow pe_int pe_int) (pa_cons pe_bl (pa_cons pe_non (pa_cons pe_str (pa_cons pe_str
        (pa_cons (pe_tup pa_nil) (pa_cons (pe_tup (pa_cons pe_int (pa_cons (pe_tup (pa_cons pe_int pa_nil)) pa_nil))) (pa_cons (pe_lstN pa_nil) (pa_cons (pe_lstN (pa_cons pe_int pa_nil)) (pa_cons pe_dnewK
        (pa_cons (pe_disp (pps_cons pe_str (pe_lstN (pa_cons pe_int pa_nil)) pps_nil) (by rfl) (by rfl) (fun z => by cases z) (by decide)) pa_nil))))))))))))))))
      (pss_one (ps_ret (pe_df C hr (pa_cons (pv 0) (pa_cons (pe_op op_cat (pv 1) (pe_lst (pa_cons (pe_df D hr (pa_cons (pv 0) (pa_cons pe_int pa_nil))) pa_nil))) pa_nil))))), ?_⟩
    refine ⟨_, rfl, _, _, rfl, rfl, ⟨by decide, by decide, by decide⟩, ?_⟩
    refine ⟨(show 0 ≤ sizeLine by decide), fun t0 m0 => ?_⟩
    have y0 := Same.new (o := .tup []) m0
    refine ⟨(show 1 ≤ sizeLine by decide), fun t1 m1 => ?_⟩
    have y1 := Same.new (o := .tup [.int 1]) m1
    refine ⟨(show 2 ≤ sizeLine by decide), fun t2 m2 => ?_⟩
    have y2 := Same.new (o := .tup [.int 0, .ref t1]) m2
    refine ⟨(show 0 ≤ sizeLine by decide), fun t3 m3 s3 => ?_⟩
    have y3 := Same.new (o := .lst []) m3
    refine ⟨(show 1 ≤ sizeLine by decide), fun t4 m4 s4 => ?_⟩
    have y4 := Same.new (o := .lst [.int 1]) m4
    intro t5 m5
    have y5 := Same.new (o := .dK []) m5
    intro t6 m6
    have y6 := Same.new (o := .dK []) m6
    refine ⟨(show 1 ≤ sizeLine by decide), fun t7 m7 s7 => ?_⟩
    have y7 := Same.new (o := .lst [.int 1]) m7
    have k6 := fun b (o : HO) (e : upd (upd (upd (upd (upd (upd H t0 (HO.tup [])) t1 (HO.tup [V.int 1])) t2 (HO.tup [V.int 0, V.ref t1])) t3 (HO.lst [])) t4 (HO.lst [V.int 1])) t5 (HO.dK []) b = some o) => ne_of_none e m6
    have y67 : Same (upd (upd (upd (upd (upd (upd H t0 (HO.tup [])) t1 (HO.tup [V.int 1])) t2 (HO.tup [V.int 0, V.ref t1])) t3 (HO.lst [])) t4 (HO.lst [V.int 1])) t5 (HO.dK [])) _ := fun b o e => by
      have q := (y6.trans y7) b o e
      exact (upd_ne (o := .dK (mergeK [] [((Sum.inr (Str.ofString "a") : Key), V.ref t7)])) (k6 b o e)).trans q
    refine ⟨y7 _ _ upd_same, [(Sum.inr (Str.ofString "a"), .ref t7)], rfl, (show 1 ≤ 15 by decide), ?_⟩
    refine ⟨(show 14 ≤ sizeLine by decide), fun p1 n1 => ?_⟩
    have z1 := Same.new (o := .lst [.int 0, .int 1, .int (-1), .int (10 ^ (59 : Int).toNat), .bl true, .non, .str "", .str "a", .ref t0, .ref t2, .ref t3, .ref t4, .ref t5, .ref t6]) n1
    have w5 := y67.trans z1
    have w4 := y5.trans w5
    have w3 := y4.trans w4
    have w2 := y3.trans w3
    have w1 := y2.trans w2
    have w0 := y1.trans w1
    have wH := y0.trans w0
    have ne67 : t7 ≠ t6 := fun z => by
      rw [z] at m7
      rw [upd_same] at m7
      cases m7
    have f7 : SqL K _ t7 [V.int 1] := z1.seq (K := K) (.of ((upd_ne (o := .dK (mergeK [] [((Sum.inr (Str.ofString "a") : Key), V.ref t7)])) ne67).trans upd_same))
    have f6 := z1 t6 _ (upd_same (o := .dK (mergeK [] [((Sum.inr (Str.ofString "a") : Key), V.ref t7)])))
    have hF := upd_same (H := upd (upd (upd (upd (upd (upd (upd (upd (upd H t0 (HO.tup [])) t1 (HO.tup [V.int 1])) t2 (HO.tup [V.int 0, V.ref t1])) t3 (HO.lst [])) t4 (HO.lst [V.int 1])) t5 (HO.dK [])) t6 (HO.dK [])) t7 (HO.lst [V.int 1])) t6 (.dK (mergeK [] [((Sum.inr (Str.ofString "a") : Key), V.ref t7)]))) (a := p1) (o := .lst [.int 0, .int 1, .int (-1), .int (10 ^ (59 : Int).toNat), .bl true, .non, .str "", .str "a", .ref t0, .ref t2, .ref t3, .ref t4, .ref t5, .ref t6])
    have e0 := w0 t0 _ upd_same
    have e1 := w1 t1 _ upd_same
    have e2 := w2 t2 _ upd_same
    have e3 := w3 t3 _ upd_same
    have e4 := w4 t4 _ upd_same
    have e5 := w5 t5 _ upd_same
    have W1 := hw.same wH
    clear w0 w1 w2 w3 w4 w5 z1 y67 k6 y0 y1 y2 y3 y4 y5 y6 y7
    generalize upd _ p1 (.lst [.int 0, .int 1, .int (-1), .int (10 ^ (59 : Int).toNat), .bl true, .non, .str "", .str "a", .ref t0, .ref t2, .ref t3, .ref t4, .ref t5, .ref t6]) = F at *
    clear m0 m1 m2 m3 m4 m5 m6 m7 n1
    have f6 : F t6 = some (.dK [(Sum.inr (Str.ofString "a"), .ref t7)]) := f6
    have hL : ∀ x ∈ [V.int 0, .int 1, .int (-1), .int (10 ^ (59 : Int).toNat), .bl true, .non, .str "", .str "a", .ref t0, .ref t2, .ref t3, .ref t4, .ref t5, .ref t6], AnyD K F x := fun x hx => by
      simp only [List.mem_cons, List.not_mem_nil, or_false] at hx
      rcases hx with rfl | rfl | rfl | rfl | rfl | rfl | rfl | rfl | rfl | rfl | rfl | rfl | rfl | rfl
      · exact anyd_int _ (by decide +kernel)
      · exact anyd_int _ (by decide +kernel)
      · exact anyd_int _ (by decide +kernel)
      · exact anyd_int _ (by decide +kernel)
      · exact anyd_bl _
      · exact anyd_non
      · exact anyd_str _ (by decide +kernel)
      · exact anyd_str _ (by decide +kernel)
      · exact anyd_tup (.tup (.of e0) .nil) (by decide +kernel) (by decide +kernel) (by decide)
      · exact anyd_tup (.tup (.of e2) (.cons (.int 0) (.cons (.tup (.of e1) (.cons (.int 1) .nil)) .nil))) (by decide +kernel) (by decide +kernel) (show 2 ≤ 1000 by decide)
      · exact anyd_lst (.lst (.of e3) s3 .nil) (by decide +kernel)
      · exact anyd_lst (.lst (.of e4) s4 (.cons (.int 1) .nil)) (by decide +kernel)
      · exact anyd_dct (ds := []) (.dct e5 (fun e => by cases e) .nil) (by decide +kernel)
      · exact anyd_dct (ds := [(.str (Str.ofString "a"), .list [.int 1])]) (.dct f6 (fun e => by cases e) (.cons (.lst f7 s7 (.cons (.int 1) .nil)) .nil)) (by decide +kernel)
    refine ⟨_, rfl, _, rfl, _, rfl, wa, 99, rfl, W1, by decide, by decide, fun k G k0 k1 W2 s2 => ⟨(show 1 ≤ sizeLine by decide), fun p2 n2 => ?_⟩⟩
    have z2 := Same.new (o := .lst [V.int k]) n2
    have hF2 := s2 _ _ (W1.lst hF) hF
    have hp2 : (upd G p2 (.lst [V.int k])) p2 = some (.lst [V.int k]) := upd_same
    refine ⟨p1, p2, _, _, rfl, rfl, z2 _ _ hF2, hp2, (show 15 ≤ sizeLine by decide), fun p3 n3 => ?_⟩
    have z3 := Same.new (o := .lst ([V.int 0, .int 1, .int (-1), .int (10 ^ (59 : Int).toNat), .bl true, .non, .str "", .str "a", .ref t0, .ref t2, .ref t3, .ref t4, .ref t5, .ref t6] ++ [V.int k])) n3
    refine ⟨wa, p3, _, rfl, (W2.same z2).same z3, .of upd_same, (by intro e; cases e), (show 15 ≤ 1000 by decide), fun v H' hv W' s' => q v H' (AnyD.sb ((W2.same z2).same z3) s' ?_) W' ((Sb.of wH).trans (s2.trans ((Sb.of (z2.trans z3)).trans s')))⟩
    rcases List.mem_append.mp hv with g | g
    · exact ((hL v g).sb W1 s2).same (z2.trans z3)
    · rw [List.mem_singleton.mp g]
      exact anyd_int _ (small_int k0 k1)
end
end K3
namespace K3
open PySem L2 Ld
def inner (i : Nat) : Stmt := match top i with
  | .ClassDef _ _ _ body _ _ _ _ _ _ _ => body.getD 0 (.Pass ⟨0, 0, 0, 0⟩)
  | s => s
section
variable {P : Program} {w : World} {K : PySem.W.Frag} {mg : Str → Option Value} {base : Heap} {f : Addr} {fd : FuncData}
/-- self.n = v -/
def spInit (K : PySem.W.Frag) (n : Str) : Sp := fun vs H Q _ => ∃ (a C : Addr) (v : V), vs = [.ref a, v] ∧ H a = some (exo a C none) ∧ OexC K C ∧ PySem.W.findIn K (.ref C) n = some none ∧
  ∀ d, H d = none → d ≠ a → Q .non (upd (upd H d (exd d [(n, v)])) a (exo a C (some d)))
abbrev sI0 : Stmt := inner 2
theorem scI0 : FnScope ["self", "value"] ["self", "value"] (defScope sI0) := ⟨rfl, rfl, rfl, by decide +kernel, rfl, by decide +kernel, by decide +kernel⟩
theorem ok_I0 (Fd : Fun K "__init__" "BadRule.__init__" sI0 f fd) : FnOk P w K mg base CX0 1 f fd ["self", "value"] (spInit K "value") := by
  refine Fd.ok scI0 (fun vs H Q E h => ?_) (fun cdv A outer s H vs Q E hr h => ?_)
  · obtain ⟨a, C, v, rfl, _⟩ := h
    rfl
  · obtain ⟨a, C, v, rfl, hA, hT, hno, q⟩ := h
    refine ⟨_, pss_one (ps_ost (pv 0) (pv 1)), ?_⟩
    exact ⟨_, rfl, _, rfl, a, C, rfl, hT, hno, .inl ⟨hA, fun d h1 h2 => q d h1 h2⟩⟩
abbrev sI1 : Stmt := inner 3
theorem scI1 : FnScope ["self", "value"] ["self", "value"] (defScope sI1) := ⟨rfl, rfl, rfl, by decide +kernel, rfl, by decide +kernel, by decide +kernel⟩
theorem ok_I1 (Fd : Fun K "__init__" "BadTable.__init__" sI1 f fd) : FnOk P w K mg base CX0 1 f fd ["self", "value"] (spInit K "value") := by
  refine Fd.ok scI1 (fun vs H Q E h => ?_) (fun cdv A outer s H vs Q E hr h => ?_)
  · obtain ⟨a, C, v, rfl, _⟩ := h
    rfl
  · obtain ⟨a, C, v, rfl, hA, hT, hno, q⟩ := h
    refine ⟨_, pss_one (ps_ost (pv 0) (pv 1)), ?_⟩
    exact ⟨_, rfl, _, rfl, a, C, rfl, hT, hno, .inl ⟨hA, fun d h1 h2 => q d h1 h2⟩⟩
abbrev sI2 : Stmt := inner 4
theorem scI2 : FnScope ["self", "value"] ["self", "value"] (defScope sI2) := ⟨rfl, rfl, rfl, by decide +kernel, rfl, by decide +kernel, by decide +kernel⟩
theorem ok_I2 (Fd : Fun K "__init__" "BadDay.__init__" sI2 f fd) : FnOk P w K mg base CX0 1 f fd ["self", "value"] (spInit K "value") := by
  refine Fd.ok scI2 (fun vs H Q E h => ?_) (fun cdv A outer s H vs Q E hr h => ?_)
  · obtain ⟨a, C, v, rfl, _⟩ := h
    rfl
  · obtain ⟨a, C, v, rfl, hA, hT, hno, q⟩ := h
    refine ⟨_, pss_one (ps_ost (pv 0) (pv 1)), ?_⟩
    exact ⟨_, rfl, _, rfl, a, C, rfl, hT, hno, .inl ⟨hA, fun d h1 h2 => q d h1 h2⟩⟩
abbrev sI3 : Stmt := inner 5
theorem scI3 : FnScope ["self", "value"] ["self", "value"] (defScope sI3) := ⟨rfl, rfl, rfl, by decide +kernel, rfl, by decide +kernel, by decide +kernel⟩
theorem ok_I3 (Fd : Fun K "__init__" "BadPlace.__init__" sI3 f fd) : FnOk P w K mg base CX0 1 f fd ["self", "value"] (spInit K "value") := by
  refine Fd.ok scI3 (fun vs H Q E h => ?_) (fun cdv A outer s H vs Q E hr h => ?_)
  · obtain ⟨a, C, v, rfl, _⟩ := h
    rfl
  · obtain ⟨a, C, v, rfl, hA, hT, hno, q⟩ := h
    refine ⟨_, pss_one (ps_ost (pv 0) (pv 1)), ?_⟩
    exact ⟨_, rfl, _, rfl, a, C, rfl, hT, hno, .inl ⟨hA, fun d h1 h2 => q d h1 h2⟩⟩
abbrev sI4 : Stmt := inner 6
theorem scI4 : FnScope ["self", "value"] ["self", "value"] (defScope sI4) := ⟨rfl, rfl, rfl, by decide +kernel, rfl, by decide +kernel, by decide +kernel⟩
theorem ok_I4 (Fd : Fun K "__init__" "BadName.__init__" sI4 f fd) : FnOk P w K mg base CX0 1 f fd ["self", "value"] (spInit K "value") := by
  refine Fd.ok scI4 (fun vs H Q E h => ?_) (fun cdv A outer s H vs Q E hr h => ?_)
  · obtain ⟨a, C, v, rfl, _⟩ := h
    rfl
  · obtain ⟨a, C, v, rfl, hA, hT, hno, q⟩ := h
    refine ⟨_, pss_one (ps_ost (pv 0) (pv 1)), ?_⟩
    exact ⟨_, rfl, _, rfl, a, C, rfl, hT, hno, .inl ⟨hA, fun d h1 h2 => q d h1 h2⟩⟩
abbrev sI5 : Stmt := inner 12
theorem scI5 : FnScope ["self", "value"] ["self", "value"] (defScope sI5) := ⟨rfl, rfl, rfl, by decide +kernel, rfl, by decide +kernel, by decide +kernel⟩
theorem ok_I5 (Fd : Fun K "__init__" "BadText.__init__" sI5 f fd) : FnOk P w K mg base CX0 1 f fd ["self", "value"] (spInit K "value") := by
  refine Fd.ok scI5 (fun vs H Q E h => ?_) (fun cdv A outer s H vs Q E hr h => ?_)
  · obtain ⟨a, C, v, rfl, _⟩ := h
    rfl
  · obtain ⟨a, C, v, rfl, hA, hT, hno, q⟩ := h
    refine ⟨_, pss_one (ps_ost (pv 0) (pv 1)), ?_⟩
    exact ⟨_, rfl, _, rfl, a, C, rfl, hT, hno, .inl ⟨hA, fun d h1 h2 => q d h1 h2⟩⟩
abbrev sI6 : Stmt := inner 7
theorem scI6 : FnScope ["self", "name"] ["self", "name"] (defScope sI6) := ⟨rfl, rfl, rfl, by decide +kernel, rfl, by decide +kernel, by decide +kernel⟩
theorem ok_I6 (Fd : Fun K "__init__" "UnknownName.__init__" sI6 f fd) : FnOk P w K mg base CX0 1 f fd ["self", "name"] (spInit K "name") := by
  refine Fd.ok scI6 (fun vs H Q E h => ?_) (fun cdv A outer s H vs Q E hr h => ?_)
  · obtain ⟨a, C, v, rfl, _⟩ := h
    rfl
  · obtain ⟨a, C, v, rfl, hA, hT, hno, q⟩ := h
    refine ⟨_, pss_one (ps_ost (pv 0) (pv 1)), ?_⟩
    exact ⟨_, rfl, _, rfl, a, C, rfl, hT, hno, .inl ⟨hA, fun d h1 h2 => q d h1 h2⟩⟩
abbrev sI7 : Stmt := inner 8
theorem scI7 : FnScope ["self", "name"] ["self", "name"] (defScope sI7) := ⟨rfl, rfl, rfl, by decide +kernel, rfl, by decide +kernel, by decide +kernel⟩
theorem ok_I7 (Fd : Fun K "__init__" "TakenName.__init__" sI7 f fd) : FnOk P w K mg base CX0 1 f fd ["self", "name"] (spInit K "name") := by
  refine Fd.ok scI7 (fun vs H Q E h => ?_) (fun cdv A outer s H vs Q E hr h => ?_)
  · obtain ⟨a, C, v, rfl, _⟩ := h
    rfl
  · obtain ⟨a, C, v, rfl, hA, hT, hno, q⟩ := h
    refine ⟨_, pss_one (ps_ost (pv 0) (pv 1)), ?_⟩
    exact ⟨_, rfl, _, rfl, a, C, rfl, hT, hno, .inl ⟨hA, fun d h1 h2 => q d h1 h2⟩⟩
abbrev sI8 : Stmt := inner 10
theorem scI8 : FnScope ["self", "name"] ["self", "name"] (defScope sI8) := ⟨rfl, rfl, rfl, by decide +kernel, rfl, by decide +kernel, by decide +kernel⟩
theorem ok_I8 (Fd : Fun K "__init__" "NotStanding.__init__" sI8 f fd) : FnOk P w K mg base CX0 1 f fd ["self", "name"] (spInit K "name") := by
  refine Fd.ok scI8 (fun vs H Q E h => ?_) (fun cdv A outer s H vs Q E hr h => ?_)
  · obtain ⟨a, C, v, rfl, _⟩ := h
    rfl
  · obtain ⟨a, C, v, rfl, hA, hT, hno, q⟩ := h
    refine ⟨_, pss_one (ps_ost (pv 0) (pv 1)), ?_⟩
    exact ⟨_, rfl, _, rfl, a, C, rfl, hT, hno, .inl ⟨hA, fun d h1 h2 => q d h1 h2⟩⟩
abbrev sI9 : Stmt := inner 11
theorem scI9 : FnScope ["self", "name"] ["self", "name"] (defScope sI9) := ⟨rfl, rfl, rfl, by decide +kernel, rfl, by decide +kernel, by decide +kernel⟩
theorem ok_I9 (Fd : Fun K "__init__" "Standing.__init__" sI9 f fd) : FnOk P w K mg base CX0 1 f fd ["self", "name"] (spInit K "name") := by
  refine Fd.ok scI9 (fun vs H Q E h => ?_) (fun cdv A outer s H vs Q E hr h => ?_)
  · obtain ⟨a, C, v, rfl, _⟩ := h
    rfl
  · obtain ⟨a, C, v, rfl, hA, hT, hno, q⟩ := h
    refine ⟨_, pss_one (ps_ost (pv 0) (pv 1)), ?_⟩
    exact ⟨_, rfl, _, rfl, a, C, rfl, hT, hno, .inl ⟨hA, fun d h1 h2 => q d h1 h2⟩⟩
abbrev sI10 : Stmt := inner 9
theorem scI10 : FnScope ["self", "place"] ["self", "place"] (defScope sI10) := ⟨rfl, rfl, rfl, by decide +kernel, rfl, by decide +kernel, by decide +kernel⟩
theorem ok_I10 (Fd : Fun K "__init__" "TakenPlace.__init__" sI10 f fd) : FnOk P w K mg base CX0 1 f fd ["self", "place"] (spInit K "place") := by
  refine Fd.ok scI10 (fun vs H Q E h => ?_) (fun cdv A outer s H vs Q E hr h => ?_)
  · obtain ⟨a, C, v, rfl, _⟩ := h
    rfl
  · obtain ⟨a, C, v, rfl, hA, hT, hno, q⟩ := h
    refine ⟨_, pss_one (ps_ost (pv 0) (pv 1)), ?_⟩
    exact ⟨_, rfl, _, rfl, a, C, rfl, hT, hno, .inl ⟨hA, fun d h1 h2 => q d h1 h2⟩⟩
abbrev sI11 : Stmt := inner 13
theorem scI11 : FnScope ["self", "command"] ["self", "command"] (defScope sI11) := ⟨rfl, rfl, rfl, by decide +kernel, rfl, by decide +kernel, by decide +kernel⟩
theorem ok_I11 (Fd : Fun K "__init__" "BadCommand.__init__" sI11 f fd) : FnOk P w K mg base CX0 1 f fd ["self", "command"] (spInit K "command") := by
  refine Fd.ok scI11 (fun vs H Q E h => ?_) (fun cdv A outer s H vs Q E hr h => ?_)
  · obtain ⟨a, C, v, rfl, _⟩ := h
    rfl
  · obtain ⟨a, C, v, rfl, hA, hT, hno, q⟩ := h
    refine ⟨_, pss_one (ps_ost (pv 0) (pv 1)), ?_⟩
    exact ⟨_, rfl, _, rfl, a, C, rfl, hT, hno, .inl ⟨hA, fun d h1 h2 => q d h1 h2⟩⟩
abbrev sI12 : Stmt := inner 14
theorem scI12 : FnScope ["self", "way"] ["self", "way"] (defScope sI12) := ⟨rfl, rfl, rfl, by decide +kernel, rfl, by decide +kernel, by decide +kernel⟩
theorem ok_I12 (Fd : Fun K "__init__" "NotSafe.__init__" sI12 f fd) : FnOk P w K mg base CX0 1 f fd ["self", "way"] (spInit K "way") := by
  refine Fd.ok scI12 (fun vs H Q E h => ?_) (fun cdv A outer s H vs Q E hr h => ?_)
  · obtain ⟨a, C, v, rfl, _⟩ := h
    rfl
  · obtain ⟨a, C, v, rfl, hA, hT, hno, q⟩ := h
    refine ⟨_, pss_one (ps_ost (pv 0) (pv 1)), ?_⟩
    exact ⟨_, rfl, _, rfl, a, C, rfl, hT, hno, .inl ⟨hA, fun d h1 h2 => q d h1 h2⟩⟩
end
end K3
namespace K3
open PySem L2 Ld
abbrev sKinds : Stmt := top 34
abbrev sOne : Stmt := top 35
abbrev sMade : Stmt := top 36
abbrev sNamed : Stmt := top 37
def fieldN : Nat → Str
  | 6 => "name"
  | 7 => "name"
  | 8 => "name"
  | 9 => "name"
  | 10 => "place"
  | 11 => "command"
  | 12 => "way"
  | _ => "value"
/-- what the top says of the classes -/
structure Errs (K : PySem.W.Frag) (mg : Str → Option Value) (Cs : Nat → Addr) (cL : Addr) : Prop where
  g0 : mg "BadRule" = some (.ref (Cs 0))
  g1 : mg "BadTable" = some (.ref (Cs 1))
  g2 : mg "BadDay" = some (.ref (Cs 2))
  g3 : mg "BadPlace" = some (.ref (Cs 3))
  g4 : mg "BadName" = some (.ref (Cs 4))
  g5 : mg "BadText" = some (.ref (Cs 5))
  g6 : mg "UnknownName" = some (.ref (Cs 6))
  g7 : mg "TakenName" = some (.ref (Cs 7))
  g8 : mg "NotStanding" = some (.ref (Cs 8))
  g9 : mg "Standing" = some (.ref (Cs 9))
  g10 : mg "TakenPlace" = some (.ref (Cs 10))
  g11 : mg "BadCommand" = some (.ref (Cs 11))
  g12 : mg "NotSafe" = some (.ref (Cs 12))
  gL : mg "LeadError" = some (.ref cL)
  xf : ∀ i < 13, XfC K (Cs i)
  ex : ∀ i < 13, ExcC K (Cs i)
  no : ∀ i < 13, PySem.W.findIn K (.ref (Cs i)) (fieldN i) = some none
  T : ∀ i < 13, OexC K (Cs i)
  kit : ∀ i < 13, ∀ j < 13, PySem.W.kitOne K (.ref (Cs i)) (.ref (Cs j)) = some (decide (i = j))
  kitL : ∀ i < 13, PySem.W.kitOne K (.ref (Cs i)) (.ref cL) = some true
  kitV : ∀ i < 13, PySem.W.kitOne K (.ref (Cs i)) (.type "ValueError") = some true
section
variable {P : Program} {w : World} {K : PySem.W.Frag} {mg : Str → Option Value} {base : Heap} {f : Addr} {fd : FuncData} {Cs : Nat → Addr} {cL : Addr}
def kindsL (i n : Nat) : List Bool := (List.range n).map fun j => decide (i = j)
def spKinds (K : PySem.W.Frag) (Cs : Nat → Addr) : Sp := fun vs H Q _ => ∃ (a d : Addr) (fs : List (Str × V)) (i : Nat), vs = [.ref a] ∧ i < 13 ∧ ExV H a (Cs i) d fs ∧ ∀ r H', Same H H' → H' r = some (.lst ((kindsL i 13).map V.bl)) → Q (.ref r) H'
theorem scKinds : FnScope ["_law_error", "_law_kinds_here"] ["_law_error"] (defScope sKinds) := ⟨rfl, rfl, rfl, by decide +kernel, rfl, by decide +kernel, by decide +kernel⟩
theorem ok_kinds (Fd : Fun K "_law_kinds" "_law_kinds" sKinds f fd) (T : Tx mg) (E : Errs K mg Cs cL) : FnOk P w K mg base CX0 1 f fd ["_law_error"] (spKinds K Cs) := by
  refine Fd.ok scKinds (fun vs H Q E h => ?_) (fun cdv A outer s H vs Q Ex hr h => ?_)
  · obtain ⟨a, d, fs, i, rfl, _⟩ := h
    rfl
  · obtain ⟨a, d, fs, i, rfl, hi, hE, q⟩ := h
    have nd := scKinds.nd
    refine ⟨_, pss_cons (ps_set (i := 1) nd rfl (Or.inl rfl) (pe_lst (pa_cons (pe_callB call_isX (by rfl) T.isi bootN (pa_cons (pv 0) (pa_cons (pe_glob (v := .ref (Cs 0)) (by rfl) E.g0 rfl) pa_nil))) (pa_cons (pe_callB call_isX (by rfl) T.isi bootN (pa_cons (pv 0) (pa_cons (pe_glob (v := .ref (Cs 1)) (by rfl) E.g1 rfl) pa_nil))) (pa_cons (pe_callB call_isX (by rfl) T.isi bootN (pa_cons (pv 0) (pa_cons (pe_glob (v := .ref (Cs 2)) (by rfl) E.g2 rfl) pa_nil))) pa_nil)))))
      (pss_cons (ps_set (i := 1) nd rfl (Or.inl rfl) (pe_op op_cat (pv 1) (pe_lst (pa_cons (pe_callB call_isX (by rfl) T.isi bootN (pa_cons (pv 0) (pa_cons (pe_glob (v := .ref (Cs 3)) (by rfl) E.g3 rfl) pa_nil))) (pa_cons (pe_callB call_isX (by rfl) T.isi bootN (pa_cons (pv 0) (pa_cons (pe_glob (v := .ref (Cs 4)) (by rfl) E.g4 rfl) pa_nil))) pa_nil)))))
      (pss_cons (ps_set (i := 1) nd rfl (Or.inl rfl) (pe_op op_cat (pv 1) (pe_lst (pa_cons (pe_callB call_isX (by rfl) T.isi bootN (pa_cons (pv 0) (pa_cons (pe_glob (v := .ref (Cs 5)) (by rfl) E.g5 rfl) pa_nil))) pa_nil))))
      (pss_cons (ps_set (i := 1) nd rfl (Or.inl rfl) (pe_op op_cat (pv 1) (pe_lst (pa_cons (pe_callB call_isX (by rfl) T.isi bootN (pa_cons (pv 0) (pa_cons (pe_glob (v := .ref (Cs 6)) (by rfl) E.g6 rfl) pa_nil))) (pa_cons (pe_callB call_isX (by rfl) T.isi bootN (pa_cons (pv 0) (pa_cons (pe_glob (v := .ref (Cs 7)) (by rfl) E.g7 rfl) pa_nil))) pa_nil)))))
      (pss_cons (ps_set (i := 1) nd rfl (Or.inl rfl) (pe_op op_cat (pv 1) (pe_lst (pa_cons (pe_callB call_isX (by rfl) T.isi bootN (pa_cons (pv 0) (pa_cons (pe_glob (v := .ref (Cs 8)) (by rfl) E.g8 rfl) pa_nil))) pa_nil))))
      (pss_cons (ps_set (i := 1) nd rfl (Or.inl rfl) (pe_op op_cat (pv 1) (pe_lst (pa_cons (pe_callB call_isX (by rfl) T.isi bootN (pa_cons (pv 0) (pa_cons (pe_glob (v := .ref (Cs 9)) (by rfl) E.g9 rfl) pa_nil))) (pa_cons (pe_callB call_isX (by rfl) T.isi bootN (pa_cons (pv 0) (pa_cons (pe_glob (v := .ref (Cs 10)) (by rfl) E.g10 rfl) pa_nil))) pa_nil)))))
      (pss_cons (ps_set (i := 1) nd rfl (Or.inl rfl) (pe_op op_cat (pv 1) (pe_lst (pa_cons (pe_callB call_isX (by rfl) T.isi bootN (pa_cons (pv 0) (pa_cons (pe_glob (v := .ref (Cs 11)) (by rfl) E.g11 rfl) pa_nil))) pa_nil))))
      (pss_one (ps_ret (pe_op op_cat (pv 1) (pe_lst (pa_cons (pe_callB call_isX (by rfl) T.isi bootN (pa_cons (pv 0) (pa_cons (pe_glob (v := .ref (Cs 12)) (by rfl) E.g12 rfl) pa_nil))) pa_nil))))))))))), ?_⟩
    refine ⟨_, rfl, a, Cs i, d, fs, .ref (Cs 0), .ref (Cs 0), decide (i = 0), rfl, hE, E.ex i hi, (fun u r => r), E.kit i hi 0 (by decide), ?_⟩
    refine ⟨_, rfl, a, Cs i, d, fs, .ref (Cs 1), .ref (Cs 1), decide (i = 1), rfl, hE, E.ex i hi, (fun u r => r), E.kit i hi 1 (by decide), ?_⟩
    refine ⟨_, rfl, a, Cs i, d, fs, .ref (Cs 2), .ref (Cs 2), decide (i = 2), rfl, hE, E.ex i hi, (fun u r => r), E.kit i hi 2 (by decide), ?_⟩
    refine ⟨(show 3 ≤ sizeLine by decide), fun p0 n0 => ?_⟩
    have z0 := Same.new (o := .lst ((kindsL i 3).map V.bl)) n0
    have s1 := z0
    have h1 : (upd H p0 (.lst ((kindsL i 3).map V.bl))) p0 = some (.lst ((kindsL i 3).map V.bl)) := upd_same
    have e1 := hE.same s1
    generalize hg1 : upd H p0 (.lst ((kindsL i 3).map V.bl)) = G1 at z0 s1 h1 e1
    rw [show upd H p0 (.lst [V.bl (decide (i = 0)), V.bl (decide (i = 1)), V.bl (decide (i = 2))]) = G1 from hg1]
    refine ⟨_, rfl, ?_⟩
    refine ⟨_, rfl, a, Cs i, d, fs, .ref (Cs 3), .ref (Cs 3), decide (i = 3), rfl, e1, E.ex i hi, (fun u r => r), E.kit i hi 3 (by decide), ?_⟩
    refine ⟨_, rfl, a, Cs i, d, fs, .ref (Cs 4), .ref (Cs 4), decide (i = 4), rfl, e1, E.ex i hi, (fun u r => r), E.kit i hi 4 (by decide), ?_⟩
    refine ⟨(show 2 ≤ sizeLine by decide), fun t1 m1 => ?_⟩
    have y1 := Same.new (o := .lst [V.bl (decide (i = 3)), V.bl (decide (i = 4))]) m1
    have hy1 : (upd G1 t1 (.lst [V.bl (decide (i = 3)), V.bl (decide (i = 4))])) t1 = some (.lst [V.bl (decide (i = 3)), V.bl (decide (i = 4))]) := upd_same
    refine ⟨p0, t1, _, _, rfl, rfl, y1 _ _ h1, hy1, (show 5 ≤ sizeLine by decide), fun p1 n1 => ?_⟩
    have z1 := Same.new (o := .lst ((kindsL i 5).map V.bl)) n1
    have h2 := upd_same (H := upd G1 t1 (.lst [V.bl (decide (i = 3)), V.bl (decide (i = 4))])) (a := p1) (o := .lst ((kindsL i 5).map V.bl))
    have s2 := s1.trans (y1.trans z1)
    have e2 := hE.same s2
    generalize hg2 : upd (upd G1 t1 (.lst [V.bl (decide (i = 3)), V.bl (decide (i = 4))])) p1 (.lst ((kindsL i 5).map V.bl)) = G2 at z1 s2 h2 e2
    rw [show upd (upd G1 t1 (.lst [V.bl (decide (i = 3)), V.bl (decide (i = 4))])) p1 (.lst ((kindsL i 3).map V.bl ++ [V.bl (decide (i = 3)), V.bl (decide (i = 4))])) = G2 from hg2]
    refine ⟨_, rfl, ?_⟩
    refine ⟨_, rfl, a, Cs i, d, fs, .ref (Cs 5), .ref (Cs 5), decide (i = 5), rfl, e2, E.ex i hi, (fun u r => r), E.kit i hi 5 (by decide), ?_⟩
    refine ⟨(show 1 ≤ sizeLine by decide), fun t2 m2 => ?_⟩
    have y2 := Same.new (o := .lst [V.bl (decide (i = 5))]) m2
    have hy2 : (upd G2 t2 (.lst [V.bl (decide (i = 5))])) t2 = some (.lst [V.bl (decide (i = 5))]) := upd_same
    refine ⟨p1, t2, _, _, rfl, rfl, y2 _ _ h2, hy2, (show 6 ≤ sizeLine by decide), fun p2 n2 => ?_⟩
    have z2 := Same.new (o := .lst ((kindsL i 6).map V.bl)) n2
    have h3 := upd_same (H := upd G2 t2 (.lst [V.bl (decide (i = 5))])) (a := p2) (o := .lst ((kindsL i 6).map V.bl))
    have s3 := s2.trans (y2.trans z2)
    have e3 := hE.same s3
    generalize hg3 : upd (upd G2 t2 (.lst [V.bl (decide (i = 5))])) p2 (.lst ((kindsL i 6).map V.bl)) = G3 at z2 s3 h3 e3
    rw [show upd (upd G2 t2 (.lst [V.bl (decide (i = 5))])) p2 (.lst ((kindsL i 5).map V.bl ++ [V.bl (decide (i = 5))])) = G3 from hg3]
    refine ⟨_, rfl, ?_⟩
    refine ⟨_, rfl, a, Cs i, d, fs, .ref (Cs 6), .ref (Cs 6), decide (i = 6), rfl, e3, E.ex i hi, (fun u r => r), E.kit i hi 6 (by decide), ?_⟩
    refine ⟨_, rfl, a, Cs i, d, fs, .ref (Cs 7), .ref (Cs 7), decide (i = 7), rfl, e3, E.ex i hi, (fun u r => r), E.kit i hi 7 (by decide), ?_⟩
    refine ⟨(show 2 ≤ sizeLine by decide), fun t3 m3 => ?_⟩
    have y3 := Same.new (o := .lst [V.bl (decide (i = 6)), V.bl (decide (i = 7))]) m3
    have hy3 : (upd G3 t3 (.lst [V.bl (decide (i = 6)), V.bl (decide (i = 7))])) t3 = some (.lst [V.bl (decide (i = 6)), V.bl (decide (i = 7))]) := upd_same
    refine ⟨p2, t3, _, _, rfl, rfl, y3 _ _ h3, hy3, (show 8 ≤ sizeLine by decide), fun p3 n3 => ?_⟩
    have z3 := Same.new (o := .lst ((kindsL i 8).map V.bl)) n3
    have h4 := upd_same (H := upd G3 t3 (.lst [V.bl (decide (i = 6)), V.bl (decide (i = 7))])) (a := p3) (o := .lst ((kindsL i 8).map V.bl))
    have s4 := s3.trans (y3.trans z3)
    have e4 := hE.same s4
    generalize hg4 : upd (upd G3 t3 (.lst [V.bl (decide (i = 6)), V.bl (decide (i = 7))])) p3 (.lst ((kindsL i 8).map V.bl)) = G4 at z3 s4 h4 e4
    rw [show upd (upd G3 t3 (.lst [V.bl (decide (i = 6)), V.bl (decide (i = 7))])) p3 (.lst ((kindsL i 6).map V.bl ++ [V.bl (decide (i = 6)), V.bl (decide (i = 7))])) = G4 from hg4]
    refine ⟨_, rfl, ?_⟩
    refine ⟨_, rfl, a, Cs i, d, fs, .ref (Cs 8), .ref (Cs 8), decide (i = 8), rfl, e4, E.ex i hi, (fun u r => r), E.kit i hi 8 (by decide), ?_⟩
    refine ⟨(show 1 ≤ sizeLine by decide), fun t4 m4 => ?_⟩
    have y4 := Same.new (o := .lst [V.bl (decide (i = 8))]) m4
    have hy4 : (upd G4 t4 (.lst [V.bl (decide (i = 8))])) t4 = some (.lst [V.bl (decide (i = 8))]) := upd_same
    refine ⟨p3, t4, _, _, rfl, rfl, y4 _ _ h4, hy4, (show 9 ≤ sizeLine by decide), fun p4 n4 => ?_⟩
    have z4 := Same.new (o := .lst ((kindsL i 9).map V.bl)) n4
    have h5 := upd_same (H := upd G4 t4 (.lst [V.bl (decide (i = 8))])) (a := p4) (o := .lst ((kindsL i 9).map V.bl))
    have s5 := s4.trans (y4.trans z4)
    have e5 := hE.same s5
    generalize hg5 : upd (upd G4 t4 (.lst [V.bl (decide (i = 8))])) p4 (.lst ((kindsL i 9).map V.bl)) = G5 at z4 s5 h5 e5
    rw [show upd (upd G4 t4 (.lst [V.bl (decide (i = 8))])) p4 (.lst ((kindsL i 8).map V.bl ++ [V.bl (decide (i = 8))])) = G5 from hg5]
    refine ⟨_, rfl, ?_⟩
    refine ⟨_, rfl, a, Cs i, d, fs, .ref (Cs 9), .ref (Cs 9), decide (i = 9), rfl, e5, E.ex i hi, (fun u r => r), E.kit i hi 9 (by decide), ?_⟩
    refine ⟨_, rfl, a, Cs i, d, fs, .ref (Cs 10), .ref (Cs 10), decide (i = 10), rfl, e5, E.ex i hi, (fun u r => r), E.kit i hi 10 (by decide), ?_⟩
    refine ⟨(show 2 ≤ sizeLine by decide), fun t5 m5 => ?_⟩
    have y5 := Same.new (o := .lst [V.bl (decide (i = 9)), V.bl (decide (i = 10))]) m5
    have hy5 : (upd G5 t5 (.lst [V.bl (decide (i = 9)), V.bl (decide (i = 10))])) t5 = some (.lst [V.bl (decide (i = 9)), V.bl (decide (i = 10))]) := upd_same
    refine ⟨p4, t5, _, _, rfl, rfl, y5 _ _ h5, hy5, (show 11 ≤ sizeLine by decide), fun p5 n5 => ?_⟩
    have z5 := Same.new (o := .lst ((kindsL i 11).map V.bl)) n5
    have h6 := upd_same (H := upd G5 t5 (.lst [V.bl (decide (i = 9)), V.bl (decide (i = 10))])) (a := p5) (o := .lst ((kindsL i 11).map V.bl))
    have s6 := s5.trans (y5.trans z5)
    have e6 := hE.same s6
    generalize hg6 : upd (upd G5 t5 (.lst [V.bl (decide (i = 9)), V.bl (decide (i = 10))])) p5 (.lst ((kindsL i 11).map V.bl)) = G6 at z5 s6 h6 e6
    rw [show upd (upd G5 t5 (.lst [V.bl (decide (i = 9)), V.bl (decide (i = 10))])) p5 (.lst ((kindsL i 9).map V.bl ++ [V.bl (decide (i = 9)), V.bl (decide (i = 10))])) = G6 from hg6]
    refine ⟨_, rfl, ?_⟩
    refine ⟨_, rfl, a, Cs i, d, fs, .ref (Cs 11), .ref (Cs 11), decide (i = 11), rfl, e6, E.ex i hi, (fun u r => r), E.kit i hi 11 (by decide), ?_⟩
    refine ⟨(show 1 ≤ sizeLine by decide), fun t6 m6 => ?_⟩
    have y6 := Same.new (o := .lst [V.bl (decide (i = 11))]) m6
    have hy6 : (upd G6 t6 (.lst [V.bl (decide (i = 11))])) t6 = some (.lst [V.bl (decide (i = 11))]) := upd_same
    refine ⟨p5, t6, _, _, rfl, rfl, y6 _ _ h6, hy6, (show 12 ≤ sizeLine by decide), fun p6 n6 => ?_⟩
    have z6 := Same.new (o := .lst ((kindsL i 12).map V.bl)) n6
    have h7 := upd_same (H := upd G6 t6 (.lst [V.bl (decide (i = 11))])) (a := p6) (o := .lst ((kindsL i 12).map V.bl))
    have s7 := s6.trans (y6.trans z6)
    have e7 := hE.same s7
    generalize hg7 : upd (upd G6 t6 (.lst [V.bl (decide (i = 11))])) p6 (.lst ((kindsL i 12).map V.bl)) = G7 at z6 s7 h7 e7
    rw [show upd (upd G6 t6 (.lst [V.bl (decide (i = 11))])) p6 (.lst ((kindsL i 11).map V.bl ++ [V.bl (decide (i = 11))])) = G7 from hg7]
    refine ⟨_, rfl, ?_⟩
    refine ⟨_, rfl, a, Cs i, d, fs, .ref (Cs 12), .ref (Cs 12), decide (i = 12), rfl, e7, E.ex i hi, (fun u r => r), E.kit i hi 12 (by decide), ?_⟩
    refine ⟨(show 1 ≤ sizeLine by decide), fun t7 m7 => ?_⟩
    have y7 := Same.new (o := .lst [V.bl (decide (i = 12))]) m7
    have hy7 : (upd G7 t7 (.lst [V.bl (decide (i = 12))])) t7 = some (.lst [V.bl (decide (i = 12))]) := upd_same
    refine ⟨p6, t7, _, _, rfl, rfl, y7 _ _ h7, hy7, (show 13 ≤ sizeLine by decide), fun p7 n7 => ?_⟩
    have z7 := Same.new (o := .lst ((kindsL i 13).map V.bl)) n7
    exact q p7 _ (s7.trans (y7.trans z7)) upd_same
end
end K3
namespace K3
open PySem L2 Ld PyProof.Rows
/-- the class x at C, its field n: made by place, by name -/
structure Mx (P : Program) (w : World) (K : PySem.W.Frag) (mg : Str → Option Value) (base : Heap) (x : Str) (C : Addr) (n : Str) : Prop where
  ex : ∃ fI fd, mg x = some (.ref C) ∧ XMk K C fI ∧ PySem.W.findIn K (.ref C) n = some none ∧ FnOk P w K mg base CX0 1 fI fd ["self", n] (spInit K n) ∧ KBn K fd ["self", n] 2 [] (fun us _ => us) (fun vs _ => vs) ∧ KBn K fd ["self", n] 1 [n] (fun us ws => us ++ ws) (fun vs zs => vs ++ zs)
def tEx (C : Addr) (n : Str) (te : TE) : TE := fun σ H Q => te σ H fun v H1 => [v].length = 1 ∧ ∀ (a d : Addr) (H2 : Hp), Same H1 H2 → ExV H2 a C d [(n, v)] → Q (.ref a) H2
def tExK (C : Addr) (n : Str) (tk : TA) : TE := fun σ H Q => tk σ H fun zs H1 => zs.length = 1 ∧ ∀ (a d : Addr) (H2 : Hp), Same H1 H2 → ExV H2 a C d [(n, zs.headD .non)] → Q (.ref a) H2
section
variable {X : Cx} {C : Addr} {x n : Str} {p pos : Pos} {e : Expr} {te : TE} {kws : List Keyword} {tk : TA}
theorem made_is {K : PySem.W.Frag} {fI : Addr} {H1 : Hp} {v : V} {Q : VK} (M : XMk K C fI) (no : PySem.W.findIn K (.ref C) n = some none) (q : ∀ (a d : Addr) (H2 : Hp), Same H1 H2 → ExV H2 a C d [(n, v)] → Q (.ref a) H2) :
    ∀ a, H1 a = none → spInit K n [.ref a, v] (upd H1 a (exo a C none)) (fun v H3 => v = .non ∧ Q (.ref a) H3) E0 := fun a ha =>
  ⟨a, C, v, rfl, upd_same, M.T, no, fun d h1 h2 => ⟨rfl, q a d _ (fun b o e => by
    have n1 : b ≠ a := ne_of_none e ha
    have e1 : upd H1 a (exo a C none) b = some o := (upd_ne n1).trans e
    have n2 : b ≠ d := ne_of_none e1 h1
    rw [upd_ne n1, upd_ne n2, upd_ne n1]
    exact e) ⟨upd_same, (upd_ne h2).trans upd_same⟩⟩⟩
theorem pe_ex {j : Nat} (M : Mx X.prog X.w X.K X.mg X.base x C n) (hr : Room j X.A) (he : PE X e te) (hj : 2 ≤ j := by decide) (hg : Gl X x := by rfl) (hdb : (x == ("__debug__" : Str)) = false := by decide)
    (hs : starEach [e] X.env = (false, eval e X.env) :: starEach [] X.env := by rfl) (hpl : (backTo pos (starEach [] X.env)).any (·.1) = false := by rfl) : PE X (.Call (.Name x p) [e] [] pos) (tEx C n te) := by
  obtain ⟨fI, fd, g, M, no, F, b1, b2⟩ := M
  refine ⟨fun pins s σ H Q I h => ?_⟩
  refine wpAny_Call_Name_kw (ld_glob I hg g ?_ hdb)
  refine PySem.W.callWith_K (h₀ := X.base) I.ok.mod.kin M.T.kC (thn ((pa_cons (hs := hs) he pa_nil).run pos pins s σ H (fun vs H1 => vs.length = 1 ∧ ∀ (a d : Addr) (H2 : Hp), Same H1 H2 → ExV H2 a C d [(n, vs.headD .non)] → Q (.ref a) H2) I h) fun us s1 ⟨vs, H1, I1, r1, l1, q1⟩ => ⟨I1.kIn, ?_⟩) hs hpl
  obtain ⟨v, rfl⟩ : ∃ v, vs = [v] := by
    cases vs with
    | nil => cases l1
    | cons v vs =>
      cases vs with
      | nil => exact ⟨v, rfl⟩
      | cons a b => cases l1
  exact run_mkx (n := 1) (ws := []) (zs := []) (ks := []) M F (hr.mono hj) b1 I1 r1 .nil rfl rfl (by decide) (made_is M no q1)
theorem pe_exK {j : Nat} (M : Mx X.prog X.w X.K X.mg X.base x C n) (hr : Room j X.A) (hkw : PK X kws tk) (hj : 2 ≤ j := by decide) (hg : Gl X x := by rfl) (hall : (backToKw pos (keywordEach kws X.env)).all (·.1.isSome) = true := by rfl)
    (hks : (backToKw pos (keywordEach kws X.env)).filterMap (·.1) = [n] := by rfl) (hdb : (x == ("__debug__" : Str)) = false := by decide)
    (hpl : ((backTo pos (starEach [] X.env)).any (·.1) || (backToKw pos (keywordEach kws X.env)).any (·.1.isNone)) = false := by rfl) : PE X (.Call (.Name x p) [] kws pos) (tExK C n tk) := by
  obtain ⟨fI, fd, g, M, no, F, b1, b2⟩ := M
  refine ⟨fun pins s σ H Q I h => ?_⟩
  refine wpAny_Call_Name_kw (ld_glob I hg g ?_ hdb)
  refine PySem.W.callWith_KW0 (h₀ := X.base) I.ok.mod.kin M.T.kC hall ?_ hpl
  refine thn (hkw.run pos pins s σ H _ I h) fun ws s2 ⟨zs, H2, I2, rz, l2, q2⟩ => ⟨I2.kIn, ?_⟩
  rw [hks]
  obtain ⟨v, rfl⟩ : ∃ v, zs = [v] := by
    cases zs with
    | nil => cases l2
    | cons v vs =>
      cases vs with
      | nil => exact ⟨v, rfl⟩
      | cons a b => cases l2
  exact run_mkx (n := 0) (us := []) (vs := []) M F (hr.mono hj) b2 I2 .nil rz rfl rfl (Nat.zero_le _) (made_is M no q2)
end
end K3
namespace K3
open PySem L2 Ld
theorem lay_bools : ∀ bs : List Bool, PyData.canLayAll0 (bs.map PyData.bool) = true
  | [] => rfl
  | b :: bs => by simp [PyData.canLayAll0, PyData.canLay0, lay_bools bs]
theorem depth_bools : ∀ bs : List Bool, PyData.depthAll (bs.map PyData.bool) = 0
  | [] => rfl
  | b :: bs => by simp [PyData.depthAll, PyData.depth, depth_bools bs]
theorem eqv_bools : ∀ bs : List Bool, PyData.eqvAll (bs.map PyData.bool) (bs.map PyData.bool) = true
  | [] => rfl
  | b :: bs => by simp [PyData.eqvAll, PyData.eqv, eqv_bools bs]
theorem shaped_bools (bs : List Bool) : SeqAt.shaped (.list (bs.map PyData.bool)) = true := by
  unfold SeqAt.shaped
  simp only [PyData.canLay0, lay_bools, PyData.depth, depth_bools]
  decide
theorem dec_int (i k : Nat) : decide (V.int (0 + (k : Int)) = V.int (i : Int)) = decide (i = k) := by
  by_cases h : i = k
  · subst h
    rw [Int.zero_add]
    simp
  · have : ¬ V.int (0 + (k : Int)) = V.int (i : Int) := fun e => h (by have := V.int.inj e; omega)
    rw [decide_eq_false this, decide_eq_false h]
section
variable {P : Program} {w : World} {K : PySem.W.Frag} {mg : Str → Option Value} {base : Heap} {f : Addr} {fd : FuncData} {Cs : Nat → Addr} {cL : Addr}
def spOne (K : PySem.W.Frag) (Cs : Nat → Addr) : Sp := fun vs H Q _ => ∃ (a d : Addr) (fs : List (Str × V)) (i : Nat), vs = [.ref a, .int (i : Int)] ∧ i < 13 ∧ ExV H a (Cs i) d fs ∧ ∀ H', Same H H' → Q (.bl true) H'
theorem scOne : FnScope ["_law_error", "_law_at", "_law_k"] ["_law_error", "_law_at"] (defScope sOne) := ⟨rfl, rfl, rfl, by decide +kernel, rfl, by decide +kernel, by decide +kernel⟩
theorem ok_one (Fd : Fun K "_law_of_one_kind" "_law_of_one_kind" sOne f fd) (T : Tx mg) (E : Errs K mg Cs cL) (D : Df P w K mg base 1 "_law_kinds" ["_law_error"] (spKinds K Cs)) : FnOk P w K mg base CX0 2 f fd ["_law_error", "_law_at"] (spOne K Cs) := by
  refine Fd.ok scOne (fun vs H Q E h => ?_) (fun cdv A outer s H vs Q Ex hr h => ?_)
  · obtain ⟨a, d, fs, i, rfl, _⟩ := h
    rfl
  · obtain ⟨a, d, fs, i, rfl, hi, hE, q⟩ := h
    have nd := scOne.nd
    refine ⟨_, pss_cons (ps_if (PW.pt (pw_or (pt_not (pt_val (pe_callB call_isX (by rfl) T.isi bootN (pa_cons (pv 0) (pa_cons (pe_glob (v := .ref cL) (by rfl) E.gL rfl) pa_nil)))))
        (pw_or1 (pt_not (pt_val (pe_callB call_isX (by rfl) T.isi bootN (pa_cons (pv 0) (pa_cons (pe_bltn (v := .ty "ValueError") (by rfl) T.ve (by decide +kernel) rfl) pa_nil)))))))) (pss_one (ps_ret pe_bl)) pss_nil)
      (pss_one (ps_ret (pe_cmpR (op_eqD hr.units) (pe_df D hr (pa_cons (pv 0) pa_nil)) (pe_lc (own := [("_law_k", 2)]) (g := gName 2) (tt := tYes) (by rfl) nd (pi_range1 rfl T.range (pa_cons pe_int pa_nil))
        (blkOk_by (own := [("_law_k", 2)]) (N := ["_law_error", "_law_at", "_law_k"]) (sc := defScope sOne) (by decide +kernel)) (fun _ _ _ _ _ => pg_name (i := 2) nd rfl (Or.inl rfl)) (fun _ _ _ _ _ => pts_nil) (fun _ _ _ _ _ => pe_cmpR op_eq (pv 2) (pv 1) (nomark _))) (nomark _)))), ?_⟩
    refine ⟨_, rfl, a, Cs i, d, fs, .ref cL, .ref cL, true, rfl, hE, E.ex i hi, (fun u r => r), E.kitL i hi, _, rfl, iteF ?_⟩
    refine ⟨_, rfl, a, Cs i, d, fs, .ty "ValueError", .type "ValueError", true, rfl, hE, E.ex i hi, (fun u r => r), E.kitV i hi, _, rfl, iteF ?_⟩
    refine ⟨_, rfl, a, d, fs, i, rfl, hi, hE, fun r G sG hr2 => ?_⟩
    refine ⟨13, rfl, by decide, by decide, fun D2 hD2 => ?_⟩
    refine lc_range (lo := 0) (n := 13) (fun k G2 => Same G G2 ∧ G2 D2 = some (.lst ((kindsL i k).map V.bl))) ⟨Ld.Same.new hD2, upd_same⟩ ?_ ?_
    · rintro k G2 hk ⟨s2, h2⟩
      refine ⟨rfl, ?_⟩
      show tOp rEq (tVar 2) (tVar 1) _ _ _
      refine ⟨_, rfl, _, rfl, rfl, _, h2, ?_, fun b o e => ?_, ?_⟩
      · rw [List.length_map]
        unfold kindsL
        rw [List.length_map, List.length_range]
        exact Nat.lt_of_lt_of_le hk (by decide)
      · rw [upd_ne (ne_of_none e hD2)]
        exact s2 b o e
      · rw [upd_same, dec_int]
        unfold kindsL
        rw [List.range_succ, List.map_append, List.map_append]
        rfl
    · rintro G2 ⟨s2, h2⟩
      refine ⟨.list ((kindsL i 13).map PyData.bool), .list ((kindsL i 13).map PyData.bool), .lst (.of (s2 _ _ hr2)) (dp_bools _), .lst (.of h2) (dp_bools _), shaped_bools _, shaped_bools _, ?_⟩
      rw [show PyData.eqv (.list ((kindsL i 13).map PyData.bool)) (.list ((kindsL i 13).map PyData.bool)) = true from eqv_bools _]
      exact q _ (sG.trans s2)
/-- the classes by what makes them -/
structure Mks (P : Program) (w : World) (K : PySem.W.Frag) (mg : Str → Option Value) (base : Heap) (Cs : Nat → Addr) : Prop where
  m0 : Mx P w K mg base "BadRule" (Cs 0) "value"
  m1 : Mx P w K mg base "BadTable" (Cs 1) "value"
  m2 : Mx P w K mg base "BadDay" (Cs 2) "value"
  m3 : Mx P w K mg base "BadPlace" (Cs 3) "value"
  m4 : Mx P w K mg base "BadName" (Cs 4) "value"
  m5 : Mx P w K mg base "BadText" (Cs 5) "value"
  m6 : Mx P w K mg base "UnknownName" (Cs 6) "name"
  m7 : Mx P w K mg base "TakenName" (Cs 7) "name"
  m8 : Mx P w K mg base "NotStanding" (Cs 8) "name"
  m9 : Mx P w K mg base "Standing" (Cs 9) "name"
  m10 : Mx P w K mg base "TakenPlace" (Cs 10) "place"
  m11 : Mx P w K mg base "BadCommand" (Cs 11) "command"
  m12 : Mx P w K mg base "NotSafe" (Cs 12) "way"
def spMade (K : PySem.W.Frag) (Cs : Nat → Addr) : Sp := fun vs H Q _ => ∃ v : V, vs = [v] ∧ ∀ (r : Addr) (es ds : Nat → Addr) (H' : Hp), Same H H' → H r = none → H' r = some (.lst ((List.range 13).map fun i => V.ref (es i))) → (∀ i < 13, ExV H' (es i) (Cs i) (ds i) [(fieldN i, v)]) → Q (.ref r) H'
theorem cases13 {p : Nat → Prop} (h0 : p 0) (h1 : p 1) (h2 : p 2) (h3 : p 3) (h4 : p 4) (h5 : p 5) (h6 : p 6) (h7 : p 7) (h8 : p 8) (h9 : p 9) (h10 : p 10) (h11 : p 11) (h12 : p 12) : ∀ i < 13, p i := fun i hi =>
  match i, hi with
  | 0, _ => h0 | 1, _ => h1 | 2, _ => h2 | 3, _ => h3 | 4, _ => h4 | 5, _ => h5 | 6, _ => h6 | 7, _ => h7 | 8, _ => h8 | 9, _ => h9 | 10, _ => h10 | 11, _ => h11 | 12, _ => h12
theorem scMade : FnScope ["_law_thing", "_law_some"] ["_law_thing"] (defScope sMade) := ⟨rfl, rfl, rfl, by decide +kernel, rfl, by decide +kernel, by decide +kernel⟩
theorem scNamed : FnScope ["_law_thing", "_law_some"] ["_law_thing"] (defScope sNamed) := ⟨rfl, rfl, rfl, by decide +kernel, rfl, by decide +kernel, by decide +kernel⟩
theorem ok_made (Fd : Fun K "_law_made" "_law_made" sMade f fd) (M : Mks P w K mg base Cs) : FnOk P w K mg base CX0 3 f fd ["_law_thing"] (spMade K Cs) := by
  refine Fd.ok scMade (fun vs H Q E h => ?_) (fun cdv A outer s H vs Q Ex hr h => ?_)
  · obtain ⟨v, rfl, _⟩ := h
    rfl
  · obtain ⟨v, rfl, q⟩ := h
    have nd := scMade.nd
    refine ⟨_, pss_cons (ps_set (i := 1) nd rfl (Or.inl rfl) (pe_lst (pa_cons (pe_ex M.m0 hr (pv 0)) (pa_cons (pe_ex M.m1 hr (pv 0)) (pa_cons (pe_ex M.m2 hr (pv 0)) (pa_cons (pe_ex M.m3 hr (pv 0)) (pa_cons (pe_ex M.m4 hr (pv 0)) pa_nil)))))))
      (pss_cons (ps_set (i := 1) nd rfl (Or.inl rfl) (pe_op op_cat (pv 1) (pe_lst (pa_cons (pe_ex M.m5 hr (pv 0)) pa_nil))))
      (pss_cons (ps_set (i := 1) nd rfl (Or.inl rfl) (pe_op op_cat (pv 1) (pe_lst (pa_cons (pe_ex M.m6 hr (pv 0)) (pa_cons (pe_ex M.m7 hr (pv 0)) (pa_cons (pe_ex M.m8 hr (pv 0)) (pa_cons (pe_ex M.m9 hr (pv 0)) pa_nil)))))))
      (pss_one (ps_ret (pe_op op_cat (pv 1) (pe_lst (pa_cons (pe_ex M.m10 hr (pv 0)) (pa_cons (pe_ex M.m11 hr (pv 0)) (pa_cons (pe_ex M.m12 hr (pv 0)) pa_nil))))))))), ?_⟩
    have s0 : Same H H := Same.refl H
    refine ⟨_, rfl, ⟨rfl, fun a0 d0 G1 r1 x0 => ?_⟩⟩
    have s1 := s0.trans r1
    refine ⟨_, rfl, ⟨rfl, fun a1 d1 G2 r2 x1 => ?_⟩⟩
    have s2 := s1.trans r2
    replace x0 := x0.same r2
    refine ⟨_, rfl, ⟨rfl, fun a2 d2 G3 r3 x2 => ?_⟩⟩
    have s3 := s2.trans r3
    replace x0 := x0.same r3
    replace x1 := x1.same r3
    refine ⟨_, rfl, ⟨rfl, fun a3 d3 G4 r4 x3 => ?_⟩⟩
    have s4 := s3.trans r4
    replace x0 := x0.same r4
    replace x1 := x1.same r4
    replace x2 := x2.same r4
    refine ⟨_, rfl, ⟨rfl, fun a4 d4 G5 r5 x4 => ?_⟩⟩
    have s5 := s4.trans r5
    replace x0 := x0.same r5
    replace x1 := x1.same r5
    replace x2 := x2.same r5
    replace x3 := x3.same r5
    refine ⟨(show 5 ≤ sizeLine by decide), fun t0 mm0 => ?_⟩
    have y0 := Same.new (o := .lst [V.ref a0, V.ref a1, V.ref a2, V.ref a3, V.ref a4]) mm0
    have hy0 := upd_same (H := G5) (a := t0) (o := .lst [V.ref a0, V.ref a1, V.ref a2, V.ref a3, V.ref a4])
    have s6 := s5.trans y0
    replace x0 := x0.same y0
    replace x1 := x1.same y0
    replace x2 := x2.same y0
    replace x3 := x3.same y0
    replace x4 := x4.same y0
    generalize upd G5 t0 (.lst [V.ref a0, V.ref a1, V.ref a2, V.ref a3, V.ref a4]) = G6 at *
    have hp := hy0
    have pp : Addr := t0
    refine ⟨_, rfl, ?_⟩
    refine ⟨_, rfl, ⟨rfl, fun a5 d5 G7 r7 x5 => ?_⟩⟩
    have s7 := s6.trans r7
    replace x0 := x0.same r7
    replace x1 := x1.same r7
    replace x2 := x2.same r7
    replace x3 := x3.same r7
    replace x4 := x4.same r7
    replace hp := r7 _ _ hp
    refine ⟨(show 1 ≤ sizeLine by decide), fun t1 mm1 => ?_⟩
    have y1 := Same.new (o := .lst [V.ref a5]) mm1
    have hy1 := upd_same (H := G7) (a := t1) (o := .lst [V.ref a5])
    replace hp := y1 _ _ hp
    have s8 := s7.trans y1
    replace x0 := x0.same y1
    replace x1 := x1.same y1
    replace x2 := x2.same y1
    replace x3 := x3.same y1
    replace x4 := x4.same y1
    replace x5 := x5.same y1
    generalize upd G7 t1 (.lst [V.ref a5]) = G8 at *
    refine ⟨t0, t1, _, _, rfl, rfl, hp, hy1, (show 6 ≤ sizeLine by decide), fun p1 nn1 => ?_⟩
    have nf1 := s8.free nn1
    have z1 := Same.new (o := .lst ([V.ref a0, V.ref a1, V.ref a2, V.ref a3, V.ref a4] ++ [V.ref a5])) nn1
    have hq1 := upd_same (H := G8) (a := p1) (o := .lst ([V.ref a0, V.ref a1, V.ref a2, V.ref a3, V.ref a4] ++ [V.ref a5]))
    have s9 := s8.trans z1
    replace x0 := x0.same z1
    replace x1 := x1.same z1
    replace x2 := x2.same z1
    replace x3 := x3.same z1
    replace x4 := x4.same z1
    replace x5 := x5.same z1
    generalize upd G8 p1 (.lst ([V.ref a0, V.ref a1, V.ref a2, V.ref a3, V.ref a4] ++ [V.ref a5])) = G9 at *
    have hp : G9 p1 = some (.lst [V.ref a0, V.ref a1, V.ref a2, V.ref a3, V.ref a4, V.ref a5]) := hq1
    refine ⟨_, rfl, ?_⟩
    refine ⟨_, rfl, ⟨rfl, fun a6 d6 G10 r10 x6 => ?_⟩⟩
    have s10 := s9.trans r10
    replace x0 := x0.same r10
    replace x1 := x1.same r10
    replace x2 := x2.same r10
    replace x3 := x3.same r10
    replace x4 := x4.same r10
    replace x5 := x5.same r10
    replace hp := r10 _ _ hp
    refine ⟨_, rfl, ⟨rfl, fun a7 d7 G11 r11 x7 => ?_⟩⟩
    have s11 := s10.trans r11
    replace x0 := x0.same r11
    replace x1 := x1.same r11
    replace x2 := x2.same r11
    replace x3 := x3.same r11
    replace x4 := x4.same r11
    replace x5 := x5.same r11
    replace x6 := x6.same r11
    replace hp := r11 _ _ hp
    refine ⟨_, rfl, ⟨rfl, fun a8 d8 G12 r12 x8 => ?_⟩⟩
    have s12 := s11.trans r12
    replace x0 := x0.same r12
    replace x1 := x1.same r12
    replace x2 := x2.same r12
    replace x3 := x3.same r12
    replace x4 := x4.same r12
    replace x5 := x5.same r12
    replace x6 := x6.same r12
    replace x7 := x7.same r12
    replace hp := r12 _ _ hp
    refine ⟨_, rfl, ⟨rfl, fun a9 d9 G13 r13 x9 => ?_⟩⟩
    have s13 := s12.trans r13
    replace x0 := x0.same r13
    replace x1 := x1.same r13
    replace x2 := x2.same r13
    replace x3 := x3.same r13
    replace x4 := x4.same r13
    replace x5 := x5.same r13
    replace x6 := x6.same r13
    replace x7 := x7.same r13
    replace x8 := x8.same r13
    replace hp := r13 _ _ hp
    refine ⟨(show 4 ≤ sizeLine by decide), fun t2 mm2 => ?_⟩
    have y2 := Same.new (o := .lst [V.ref a6, V.ref a7, V.ref a8, V.ref a9]) mm2
    have hy2 := upd_same (H := G13) (a := t2) (o := .lst [V.ref a6, V.ref a7, V.ref a8, V.ref a9])
    replace hp := y2 _ _ hp
    have s14 := s13.trans y2
    replace x0 := x0.same y2
    replace x1 := x1.same y2
    replace x2 := x2.same y2
    replace x3 := x3.same y2
    replace x4 := x4.same y2
    replace x5 := x5.same y2
    replace x6 := x6.same y2
    replace x7 := x7.same y2
    replace x8 := x8.same y2
    replace x9 := x9.same y2
    generalize upd G13 t2 (.lst [V.ref a6, V.ref a7, V.ref a8, V.ref a9]) = G14 at *
    refine ⟨p1, t2, _, _, rfl, rfl, hp, hy2, (show 10 ≤ sizeLine by decide), fun p2 nn2 => ?_⟩
    have nf2 := s14.free nn2
    have z2 := Same.new (o := .lst ([V.ref a0, V.ref a1, V.ref a2, V.ref a3, V.ref a4, V.ref a5] ++ [V.ref a6, V.ref a7, V.ref a8, V.ref a9])) nn2
    have hq2 := upd_same (H := G14) (a := p2) (o := .lst ([V.ref a0, V.ref a1, V.ref a2, V.ref a3, V.ref a4, V.ref a5] ++ [V.ref a6, V.ref a7, V.ref a8, V.ref a9]))
    have s15 := s14.trans z2
    replace x0 := x0.same z2
    replace x1 := x1.same z2
    replace x2 := x2.same z2
    replace x3 := x3.same z2
    replace x4 := x4.same z2
    replace x5 := x5.same z2
    replace x6 := x6.same z2
    replace x7 := x7.same z2
    replace x8 := x8.same z2
    replace x9 := x9.same z2
    generalize upd G14 p2 (.lst ([V.ref a0, V.ref a1, V.ref a2, V.ref a3, V.ref a4, V.ref a5] ++ [V.ref a6, V.ref a7, V.ref a8, V.ref a9])) = G15 at *
    have hp : G15 p2 = some (.lst [V.ref a0, V.ref a1, V.ref a2, V.ref a3, V.ref a4, V.ref a5, V.ref a6, V.ref a7, V.ref a8, V.ref a9]) := hq2
    refine ⟨_, rfl, ?_⟩
    refine ⟨_, rfl, ⟨rfl, fun a10 d10 G16 r16 x10 => ?_⟩⟩
    have s16 := s15.trans r16
    replace x0 := x0.same r16
    replace x1 := x1.same r16
    replace x2 := x2.same r16
    replace x3 := x3.same r16
    replace x4 := x4.same r16
    replace x5 := x5.same r16
    replace x6 := x6.same r16
    replace x7 := x7.same r16
    replace x8 := x8.same r16
    replace x9 := x9.same r16
    replace hp := r16 _ _ hp
    refine ⟨_, rfl, ⟨rfl, fun a11 d11 G17 r17 x11 => ?_⟩⟩
    have s17 := s16.trans r17
    replace x0 := x0.same r17
    replace x1 := x1.same r17
    replace x2 := x2.same r17
    replace x3 := x3.same r17
    replace x4 := x4.same r17
    replace x5 := x5.same r17
    replace x6 := x6.same r17
    replace x7 := x7.same r17
    replace x8 := x8.same r17
    replace x9 := x9.same r17
    replace x10 := x10.same r17
    replace hp := r17 _ _ hp
    refine ⟨_, rfl, ⟨rfl, fun a12 d12 G18 r18 x12 => ?_⟩⟩
    have s18 := s17.trans r18
    replace x0 := x0.same r18
    replace x1 := x1.same r18
    replace x2 := x2.same r18
    replace x3 := x3.same r18
    replace x4 := x4.same r18
    replace x5 := x5.same r18
    replace x6 := x6.same r18
    replace x7 := x7.same r18
    replace x8 := x8.same r18
    replace x9 := x9.same r18
    replace x10 := x10.same r18
    replace x11 := x11.same r18
    replace hp := r18 _ _ hp
    refine ⟨(show 3 ≤ sizeLine by decide), fun t3 mm3 => ?_⟩
    have y3 := Same.new (o := .lst [V.ref a10, V.ref a11, V.ref a12]) mm3
    have hy3 := upd_same (H := G18) (a := t3) (o := .lst [V.ref a10, V.ref a11, V.ref a12])
    replace hp := y3 _ _ hp
    have s19 := s18.trans y3
    replace x0 := x0.same y3
    replace x1 := x1.same y3
    replace x2 := x2.same y3
    replace x3 := x3.same y3
    replace x4 := x4.same y3
    replace x5 := x5.same y3
    replace x6 := x6.same y3
    replace x7 := x7.same y3
    replace x8 := x8.same y3
    replace x9 := x9.same y3
    replace x10 := x10.same y3
    replace x11 := x11.same y3
    replace x12 := x12.same y3
    generalize upd G18 t3 (.lst [V.ref a10, V.ref a11, V.ref a12]) = G19 at *
    refine ⟨p2, t3, _, _, rfl, rfl, hp, hy3, (show 13 ≤ sizeLine by decide), fun p3 nn3 => ?_⟩
    have nf3 := s19.free nn3
    have z3 := Same.new (o := .lst ([V.ref a0, V.ref a1, V.ref a2, V.ref a3, V.ref a4, V.ref a5, V.ref a6, V.ref a7, V.ref a8, V.ref a9] ++ [V.ref a10, V.ref a11, V.ref a12])) nn3
    have hq3 := upd_same (H := G19) (a := p3) (o := .lst ([V.ref a0, V.ref a1, V.ref a2, V.ref a3, V.ref a4, V.ref a5, V.ref a6, V.ref a7, V.ref a8, V.ref a9] ++ [V.ref a10, V.ref a11, V.ref a12]))
    have s20 := s19.trans z3
    replace x0 := x0.same z3
    replace x1 := x1.same z3
    replace x2 := x2.same z3
    replace x3 := x3.same z3
    replace x4 := x4.same z3
    replace x5 := x5.same z3
    replace x6 := x6.same z3
    replace x7 := x7.same z3
    replace x8 := x8.same z3
    replace x9 := x9.same z3
    replace x10 := x10.same z3
    replace x11 := x11.same z3
    replace x12 := x12.same z3
    generalize upd G19 p3 (.lst ([V.ref a0, V.ref a1, V.ref a2, V.ref a3, V.ref a4, V.ref a5, V.ref a6, V.ref a7, V.ref a8, V.ref a9] ++ [V.ref a10, V.ref a11, V.ref a12])) = G20 at *
    have hp : G20 p3 = some (.lst [V.ref a0, V.ref a1, V.ref a2, V.ref a3, V.ref a4, V.ref a5, V.ref a6, V.ref a7, V.ref a8, V.ref a9, V.ref a10, V.ref a11, V.ref a12]) := hq3
    exact q p3 (fun i => [a0, a1, a2, a3, a4, a5, a6, a7, a8, a9, a10, a11, a12].getD i 0) (fun i => [d0, d1, d2, d3, d4, d5, d6, d7, d8, d9, d10, d11, d12].getD i 0) _ s20 nf3 hp (cases13 x0 x1 x2 x3 x4 x5 x6 x7 x8 x9 x10 x11 x12)
theorem ok_named (Fd : Fun K "_law_named" "_law_named" sNamed f fd) (M : Mks P w K mg base Cs) : FnOk P w K mg base CX0 3 f fd ["_law_thing"] (spMade K Cs) := by
  refine Fd.ok scNamed (fun vs H Q E h => ?_) (fun cdv A outer s H vs Q Ex hr h => ?_)
  · obtain ⟨v, rfl, _⟩ := h
    rfl
  · obtain ⟨v, rfl, q⟩ := h
    have nd := scNamed.nd
    refine ⟨_, pss_cons (ps_set (i := 1) nd rfl (Or.inl rfl) (pe_lst (pa_cons (pe_exK M.m0 hr (pk_cons (pv 0) pk_nil)) (pa_cons (pe_exK M.m1 hr (pk_cons (pv 0) pk_nil)) (pa_cons (pe_exK M.m2 hr (pk_cons (pv 0) pk_nil)) (pa_cons (pe_exK M.m3 hr (pk_cons (pv 0) pk_nil)) pa_nil))))))
      (pss_cons (ps_set (i := 1) nd rfl (Or.inl rfl) (pe_op op_cat (pv 1) (pe_lst (pa_cons (pe_exK M.m4 hr (pk_cons (pv 0) pk_nil)) (pa_cons (pe_exK M.m5 hr (pk_cons (pv 0) pk_nil)) (pa_cons (pe_exK M.m6 hr (pk_cons (pv 0) pk_nil)) pa_nil))))))
      (pss_cons (ps_set (i := 1) nd rfl (Or.inl rfl) (pe_op op_cat (pv 1) (pe_lst (pa_cons (pe_exK M.m7 hr (pk_cons (pv 0) pk_nil)) pa_nil))))
      (pss_cons (ps_set (i := 1) nd rfl (Or.inl rfl) (pe_op op_cat (pv 1) (pe_lst (pa_cons (pe_exK M.m8 hr (pk_cons (pv 0) pk_nil)) (pa_cons (pe_exK M.m9 hr (pk_cons (pv 0) pk_nil)) (pa_cons (pe_exK M.m10 hr (pk_cons (pv 0) pk_nil)) pa_nil))))))
      (pss_one (ps_ret (pe_op op_cat (pv 1) (pe_lst (pa_cons (pe_exK M.m11 hr (pk_cons (pv 0) pk_nil)) (pa_cons (pe_exK M.m12 hr (pk_cons (pv 0) pk_nil)) pa_nil))))))))), ?_⟩
    have s0 : Same H H := Same.refl H
    refine ⟨_, rfl, ⟨rfl, fun a0 d0 G1 r1 x0 => ?_⟩⟩
    have s1 := s0.trans r1
    refine ⟨_, rfl, ⟨rfl, fun a1 d1 G2 r2 x1 => ?_⟩⟩
    have s2 := s1.trans r2
    replace x0 := x0.same r2
    refine ⟨_, rfl, ⟨rfl, fun a2 d2 G3 r3 x2 => ?_⟩⟩
    have s3 := s2.trans r3
    replace x0 := x0.same r3
    replace x1 := x1.same r3
    refine ⟨_, rfl, ⟨rfl, fun a3 d3 G4 r4 x3 => ?_⟩⟩
    have s4 := s3.trans r4
    replace x0 := x0.same r4
    replace x1 := x1.same r4
    replace x2 := x2.same r4
    refine ⟨(show 4 ≤ sizeLine by decide), fun t0 mm0 => ?_⟩
    have y0 := Same.new (o := .lst [V.ref a0, V.ref a1, V.ref a2, V.ref a3]) mm0
    have hy0 := upd_same (H := G4) (a := t0) (o := .lst [V.ref a0, V.ref a1, V.ref a2, V.ref a3])
    have s5 := s4.trans y0
    replace x0 := x0.same y0
    replace x1 := x1.same y0
    replace x2 := x2.same y0
    replace x3 := x3.same y0
    generalize upd G4 t0 (.lst [V.ref a0, V.ref a1, V.ref a2, V.ref a3]) = G5 at *
    have hp := hy0
    have pp : Addr := t0
    refine ⟨_, rfl, ?_⟩
    refine ⟨_, rfl, ⟨rfl, fun a4 d4 G6 r6 x4 => ?_⟩⟩
    have s6 := s5.trans r6
    replace x0 := x0.same r6
    replace x1 := x1.same r6
    replace x2 := x2.same r6
    replace x3 := x3.same r6
    replace hp := r6 _ _ hp
    refine ⟨_, rfl, ⟨rfl, fun a5 d5 G7 r7 x5 => ?_⟩⟩
    have s7 := s6.trans r7
    replace x0 := x0.same r7
    replace x1 := x1.same r7
    replace x2 := x2.same r7
    replace x3 := x3.same r7
    replace x4 := x4.same r7
    replace hp := r7 _ _ hp
    refine ⟨_, rfl, ⟨rfl, fun a6 d6 G8 r8 x6 => ?_⟩⟩
    have s8 := s7.trans r8
    replace x0 := x0.same r8
    replace x1 := x1.same r8
    replace x2 := x2.same r8
    replace x3 := x3.same r8
    replace x4 := x4.same r8
    replace x5 := x5.same r8
    replace hp := r8 _ _ hp
    refine ⟨(show 3 ≤ sizeLine by decide), fun t1 mm1 => ?_⟩
    have y1 := Same.new (o := .lst [V.ref a4, V.ref a5, V.ref a6]) mm1
    have hy1 := upd_same (H := G8) (a := t1) (o := .lst [V.ref a4, V.ref a5, V.ref a6])
    replace hp := y1 _ _ hp
    have s9 := s8.trans y1
    replace x0 := x0.same y1
    replace x1 := x1.same y1
    replace x2 := x2.same y1
    replace x3 := x3.same y1
    replace x4 := x4.same y1
    replace x5 := x5.same y1
    replace x6 := x6.same y1
    generalize upd G8 t1 (.lst [V.ref a4, V.ref a5, V.ref a6]) = G9 at *
    refine ⟨t0, t1, _, _, rfl, rfl, hp, hy1, (show 7 ≤ sizeLine by decide), fun p1 nn1 => ?_⟩
    have nf1 := s9.free nn1
    have z1 := Same.new (o := .lst ([V.ref a0, V.ref a1, V.ref a2, V.ref a3] ++ [V.ref a4, V.ref a5, V.ref a6])) nn1
    have hq1 := upd_same (H := G9) (a := p1) (o := .lst ([V.ref a0, V.ref a1, V.ref a2, V.ref a3] ++ [V.ref a4, V.ref a5, V.ref a6]))
    have s10 := s9.trans z1
    replace x0 := x0.same z1
    replace x1 := x1.same z1
    replace x2 := x2.same z1
    replace x3 := x3.same z1
    replace x4 := x4.same z1
    replace x5 := x5.same z1
    replace x6 := x6.same z1
    generalize upd G9 p1 (.lst ([V.ref a0, V.ref a1, V.ref a2, V.ref a3] ++ [V.ref a4, V.ref a5, V.ref a6])) = G10 at *
    have hp : G10 p1 = some (.lst [V.ref a0, V.ref a1, V.ref a2, V.ref a3, V.ref a4, V.ref a5, V.ref a6]) := hq1
    refine ⟨_, rfl, ?_⟩
    refine ⟨_, rfl, ⟨rfl, fun a7 d7 G11 r11 x7 => ?_⟩⟩
    have s11 := s10.trans r11
    replace x0 := x0.same r11
    replace x1 := x1.same r11
    replace x2 := x2.same r11
    replace x3 := x3.same r11
    replace x4 := x4.same r11
    replace x5 := x5.same r11
    replace x6 := x6.same r11
    replace hp := r11 _ _ hp
    refine ⟨(show 1 ≤ sizeLine by decide), fun t2 mm2 => ?_⟩
    have y2 := Same.new (o := .lst [V.ref a7]) mm2
    have hy2 := upd_same (H := G11) (a := t2) (o := .lst [V.ref a7])
    replace hp := y2 _ _ hp
    have s12 := s11.trans y2
    replace x0 := x0.same y2
    replace x1 := x1.same y2
    replace x2 := x2.same y2
    replace x3 := x3.same y2
    replace x4 := x4.same y2
    replace x5 := x5.same y2
    replace x6 := x6.same y2
    replace x7 := x7.same y2
    generalize upd G11 t2 (.lst [V.ref a7]) = G12 at *
    refine ⟨p1, t2, _, _, rfl, rfl, hp, hy2, (show 8 ≤ sizeLine by decide), fun p2 nn2 => ?_⟩
    have nf2 := s12.free nn2
    have z2 := Same.new (o := .lst ([V.ref a0, V.ref a1, V.ref a2, V.ref a3, V.ref a4, V.ref a5, V.ref a6] ++ [V.ref a7])) nn2
    have hq2 := upd_same (H := G12) (a := p2) (o := .lst ([V.ref a0, V.ref a1, V.ref a2, V.ref a3, V.ref a4, V.ref a5, V.ref a6] ++ [V.ref a7]))
    have s13 := s12.trans z2
    replace x0 := x0.same z2
    replace x1 := x1.same z2
    replace x2 := x2.same z2
    replace x3 := x3.same z2
    replace x4 := x4.same z2
    replace x5 := x5.same z2
    replace x6 := x6.same z2
    replace x7 := x7.same z2
    generalize upd G12 p2 (.lst ([V.ref a0, V.ref a1, V.ref a2, V.ref a3, V.ref a4, V.ref a5, V.ref a6] ++ [V.ref a7])) = G13 at *
    have hp : G13 p2 = some (.lst [V.ref a0, V.ref a1, V.ref a2, V.ref a3, V.ref a4, V.ref a5, V.ref a6, V.ref a7]) := hq2
    refine ⟨_, rfl, ?_⟩
    refine ⟨_, rfl, ⟨rfl, fun a8 d8 G14 r14 x8 => ?_⟩⟩
    have s14 := s13.trans r14
    replace x0 := x0.same r14
    replace x1 := x1.same r14
    replace x2 := x2.same r14
    replace x3 := x3.same r14
    replace x4 := x4.same r14
    replace x5 := x5.same r14
    replace x6 := x6.same r14
    replace x7 := x7.same r14
    replace hp := r14 _ _ hp
    refine ⟨_, rfl, ⟨rfl, fun a9 d9 G15 r15 x9 => ?_⟩⟩
    have s15 := s14.trans r15
    replace x0 := x0.same r15
    replace x1 := x1.same r15
    replace x2 := x2.same r15
    replace x3 := x3.same r15
    replace x4 := x4.same r15
    replace x5 := x5.same r15
    replace x6 := x6.same r15
    replace x7 := x7.same r15
    replace x8 := x8.same r15
    replace hp := r15 _ _ hp
    refine ⟨_, rfl, ⟨rfl, fun a10 d10 G16 r16 x10 => ?_⟩⟩
    have s16 := s15.trans r16
    replace x0 := x0.same r16
    replace x1 := x1.same r16
    replace x2 := x2.same r16
    replace x3 := x3.same r16
    replace x4 := x4.same r16
    replace x5 := x5.same r16
    replace x6 := x6.same r16
    replace x7 := x7.same r16
    replace x8 := x8.same r16
    replace x9 := x9.same r16
    replace hp := r16 _ _ hp
    refine ⟨(show 3 ≤ sizeLine by decide), fun t3 mm3 => ?_⟩
    have y3 := Same.new (o := .lst [V.ref a8, V.ref a9, V.ref a10]) mm3
    have hy3 := upd_same (H := G16) (a := t3) (o := .lst [V.ref a8, V.ref a9, V.ref a10])
    replace hp := y3 _ _ hp
    have s17 := s16.trans y3
    replace x0 := x0.same y3
    replace x1 := x1.same y3
    replace x2 := x2.same y3
    replace x3 := x3.same y3
    replace x4 := x4.same y3
    replace x5 := x5.same y3
    replace x6 := x6.same y3
    replace x7 := x7.same y3
    replace x8 := x8.same y3
    replace x9 := x9.same y3
    replace x10 := x10.same y3
    generalize upd G16 t3 (.lst [V.ref a8, V.ref a9, V.ref a10]) = G17 at *
    refine ⟨p2, t3, _, _, rfl, rfl, hp, hy3, (show 11 ≤ sizeLine by decide), fun p3 nn3 => ?_⟩
    have nf3 := s17.free nn3
    have z3 := Same.new (o := .lst ([V.ref a0, V.ref a1, V.ref a2, V.ref a3, V.ref a4, V.ref a5, V.ref a6, V.ref a7] ++ [V.ref a8, V.ref a9, V.ref a10])) nn3
    have hq3 := upd_same (H := G17) (a := p3) (o := .lst ([V.ref a0, V.ref a1, V.ref a2, V.ref a3, V.ref a4, V.ref a5, V.ref a6, V.ref a7] ++ [V.ref a8, V.ref a9, V.ref a10]))
    have s18 := s17.trans z3
    replace x0 := x0.same z3
    replace x1 := x1.same z3
    replace x2 := x2.same z3
    replace x3 := x3.same z3
    replace x4 := x4.same z3
    replace x5 := x5.same z3
    replace x6 := x6.same z3
    replace x7 := x7.same z3
    replace x8 := x8.same z3
    replace x9 := x9.same z3
    replace x10 := x10.same z3
    generalize upd G17 p3 (.lst ([V.ref a0, V.ref a1, V.ref a2, V.ref a3, V.ref a4, V.ref a5, V.ref a6, V.ref a7] ++ [V.ref a8, V.ref a9, V.ref a10])) = G18 at *
    have hp : G18 p3 = some (.lst [V.ref a0, V.ref a1, V.ref a2, V.ref a3, V.ref a4, V.ref a5, V.ref a6, V.ref a7, V.ref a8, V.ref a9, V.ref a10]) := hq3
    refine ⟨_, rfl, ?_⟩
    refine ⟨_, rfl, ⟨rfl, fun a11 d11 G19 r19 x11 => ?_⟩⟩
    have s19 := s18.trans r19
    replace x0 := x0.same r19
    replace x1 := x1.same r19
    replace x2 := x2.same r19
    replace x3 := x3.same r19
    replace x4 := x4.same r19
    replace x5 := x5.same r19
    replace x6 := x6.same r19
    replace x7 := x7.same r19
    replace x8 := x8.same r19
    replace x9 := x9.same r19
    replace x10 := x10.same r19
    replace hp := r19 _ _ hp
    refine ⟨_, rfl, ⟨rfl, fun a12 d12 G20 r20 x12 => ?_⟩⟩
    have s20 := s19.trans r20
    replace x0 := x0.same r20
    replace x1 := x1.same r20
    replace x2 := x2.same r20
    replace x3 := x3.same r20
    replace x4 := x4.same r20
    replace x5 := x5.same r20
    replace x6 := x6.same r20
    replace x7 := x7.same r20
    replace x8 := x8.same r20
    replace x9 := x9.same r20
    replace x10 := x10.same r20
    replace x11 := x11.same r20
    replace hp := r20 _ _ hp
    refine ⟨(show 2 ≤ sizeLine by decide), fun t4 mm4 => ?_⟩
    have y4 := Same.new (o := .lst [V.ref a11, V.ref a12]) mm4
    have hy4 := upd_same (H := G20) (a := t4) (o := .lst [V.ref a11, V.ref a12])
    replace hp := y4 _ _ hp
    have s21 := s20.trans y4
    replace x0 := x0.same y4
    replace x1 := x1.same y4
    replace x2 := x2.same y4
    replace x3 := x3.same y4
    replace x4 := x4.same y4
    replace x5 := x5.same y4
    replace x6 := x6.same y4
    replace x7 := x7.same y4
    replace x8 := x8.same y4
    replace x9 := x9.same y4
    replace x10 := x10.same y4
    replace x11 := x11.same y4
    replace x12 := x12.same y4
    generalize upd G20 t4 (.lst [V.ref a11, V.ref a12]) = G21 at *
    refine ⟨p3, t4, _, _, rfl, rfl, hp, hy4, (show 13 ≤ sizeLine by decide), fun p4 nn4 => ?_⟩
    have nf4 := s21.free nn4
    have z4 := Same.new (o := .lst ([V.ref a0, V.ref a1, V.ref a2, V.ref a3, V.ref a4, V.ref a5, V.ref a6, V.ref a7, V.ref a8, V.ref a9, V.ref a10] ++ [V.ref a11, V.ref a12])) nn4
    have hq4 := upd_same (H := G21) (a := p4) (o := .lst ([V.ref a0, V.ref a1, V.ref a2, V.ref a3, V.ref a4, V.ref a5, V.ref a6, V.ref a7, V.ref a8, V.ref a9, V.ref a10] ++ [V.ref a11, V.ref a12]))
    have s22 := s21.trans z4
    replace x0 := x0.same z4
    replace x1 := x1.same z4
    replace x2 := x2.same z4
    replace x3 := x3.same z4
    replace x4 := x4.same z4
    replace x5 := x5.same z4
    replace x6 := x6.same z4
    replace x7 := x7.same z4
    replace x8 := x8.same z4
    replace x9 := x9.same z4
    replace x10 := x10.same z4
    replace x11 := x11.same z4
    replace x12 := x12.same z4
    generalize upd G21 p4 (.lst ([V.ref a0, V.ref a1, V.ref a2, V.ref a3, V.ref a4, V.ref a5, V.ref a6, V.ref a7, V.ref a8, V.ref a9, V.ref a10] ++ [V.ref a11, V.ref a12])) = G22 at *
    have hp : G22 p4 = some (.lst [V.ref a0, V.ref a1, V.ref a2, V.ref a3, V.ref a4, V.ref a5, V.ref a6, V.ref a7, V.ref a8, V.ref a9, V.ref a10, V.ref a11, V.ref a12]) := hq4
    exact q p4 (fun i => [a0, a1, a2, a3, a4, a5, a6, a7, a8, a9, a10, a11, a12].getD i 0) (fun i => [d0, d1, d2, d3, d4, d5, d6, d7, d8, d9, d10, d11, d12].getD i 0) _ s22 nf4 hp (cases13 x0 x1 x2 x3 x4 x5 x6 x7 x8 x9 x10 x11 x12)
end
end K3
namespace K3
open PySem L2 Ld PyProof.Rows
abbrev sBy : Stmt := top 38
/-- f(k = v, ..) -/
structure DfK (P : Program) (w : World) (K : PySem.W.Frag) (mg : Str → Option Value) (base : Heap) (k : Nat) (x : Str) (ps ks : List Str) (gV : List V → List V → List V) (sp : Sp) : Prop where
  ex : ∃ f fd g, mg x = some (.ref f) ∧ PySem.W.keepIn K (.ref f) = true ∧ KBn K fd ps 0 ks g gV ∧ FnOk P w K mg base CX0 k f fd ps sp
section
variable {X : Cx} {k : Nat} {ps ks : List Str} {sp : Sp} {x : Str} {p pos : Pos} {kws : List Keyword} {tk : TA} {gV : List V → List V → List V}
theorem pe_dk {j : Nat} (D : DfK X.prog X.w X.K X.mg X.base k x ps ks gV sp) (hr : Room j X.A) (hkw : PK X kws tk) (hj : k ≤ j := by decide) (hg : Gl X x := by rfl)
    (hall : (backToKw pos (keywordEach kws X.env)).all (·.1.isSome) = true := by rfl) (hks : (backToKw pos (keywordEach kws X.env)).filterMap (·.1) = ks := by rfl) (hdb : (x == ("__debug__" : Str)) = false := by decide)
    (hpl : ((backTo pos (starEach [] X.env)).any (·.1) || (backToKw pos (keywordEach kws X.env)).any (·.1.isNone)) = false := by rfl) :
    PE X (.Call (.Name x p) [] kws pos) (tDfK ks.length sp gV tk) := by
  obtain ⟨f, fd, g, h1, h2, h3, h4⟩ := D.ex
  exact pe_dfK h4 (hr.mono hj) hg h1 h2 h3 hkw hall hks hdb hpl
theorem call_reprK {K : PySem.W.Frag} {P : Program} {w : World} (hG : X.A.guards = some []) (hu : X.A.units + 64 < cLine) (hK : X.K = K := by rfl) (hP : X.prog = P := by rfl) (hW : X.w = w := by rfl) :
    CallR X (.builtin "repr") (fun xs H Q => ∃ v d, xs = [v] ∧ Rds K P w H v d ∧ Small d ∧ Q (.str d.shown) H) := by
  subst hK hP hW
  exact call_repr hG hu
theorem ix_tupK {K : PySem.W.Frag} (hK : X.K = K := by rfl) : IxR X (rIxT K) := by
  subst hK
  exact ix_tup
end
theorem dp_rds {K : PySem.W.Frag} {P : Program} {w : World} {H : Hp} {v : V} {d : PyData} (z : Dp K H v d) : Rds K P w H v d := Lf.rds (.dat z)
def byN : List Str := ["_law_well_here", "_law_one", "_law_thing", "_law_pairs", "_law_pair"]
theorem scBy : FnScope byN ["_law_well_here"] (defScope sBy) := ⟨rfl, rfl, rfl, by decide +kernel, rfl, by decide +kernel, by decide +kernel⟩
def gBack (vs zs : List V) : List V := match zs with
  | [b, a] => [a, b]
  | _ => zs
def smallB (d : PyData) : Bool := d.showable && decide (d.depth ≤ 40) && decide (d.shown.length ≤ sizeLine)
theorem small_of {d : PyData} (h : smallB d = true) : Small d := by
  simp only [smallB, Bool.and_eq_true, decide_eq_true_eq] at h
  exact ⟨h.1.1, h.1.2, h.2⟩
def ones : List (List Str) := [["a", "b"], [], ["c"]]
def adrB (ws : List Str) : Bool := decide (ws.length ≤ 11) && ws.all fun z => decide (z.length ≤ 12) && z.cps.toList.all fun c => decide (c < 128)
theorem adr_of {ws : List Str} (h : adrB ws = true) : Adr ws ∧ ws.length ≤ 11 := by
  simp only [adrB, Bool.and_eq_true, decide_eq_true_eq, List.all_eq_true] at h
  exact ⟨⟨Nat.le_trans h.1 (by decide), fun z hz => ⟨(h.2 z hz).1, fun c hc => (h.2 z hz).2 c hc⟩⟩, h.1⟩
def oneB (ws : List Str) : Bool := adrB ws && smallB (keyD ws) && smallB (.list (begD ws (ws.length + 1))) && smallB (wt ((ws ++ [Str.ofString "d"]).drop ws.length))
theorem ones_ok : ones.all oneB = true := by decide +kernel
structure One (ws : List Str) : Prop where
  adr : Adr ws
  len : ws.length ≤ 11
  key : Small (keyD ws)
  beg : Small (.list (begD ws (ws.length + 1)))
  rest : Small (wt ((ws ++ [Str.ofString "d"]).drop ws.length))
theorem one_of {ws : List Str} (h : ws ∈ ones) : One ws := by
  have h := List.all_eq_true.mp ones_ok ws h
  simp only [oneB, Bool.and_eq_true] at h
  exact ⟨(adr_of h.1.1.1).1, (adr_of h.1.1.1).2, small_of h.1.1.2, small_of h.1.2, small_of h.2⟩
theorem small_bool (b : Bool) : Small (.bool b) := by
  cases b
  · exact small_of (by decide +kernel)
  · exact small_of (by decide +kernel)
theorem small_seq {m : Nat} (h : m ≤ 1) : Small (.str (seqW m)) := by
  match m, h with
  | 0, _ => exact small_of (by decide +kernel)
  | 1, _ => exact small_of (by decide +kernel)
mutual
def noL : PyData → Bool
  | .list _ => false
  | .tuple ds => noLAll ds
  | .dict _ => false
  | _ => true
def noLAll : List PyData → Bool
  | [] => true
  | d :: ds => noL d && noLAll ds
end
mutual
theorem dp_tups {K : PySem.W.Frag} {H H' : Hp} (hT : ∀ a xs, SqT K H a xs → SqT K H' a xs) : ∀ (d : PyData) (v : V), noL d = true → Dp K H v d → Dp K H' v d
  | .none, _, _, h => by cases h; exact .non
  | .bool _, _, _, h => by cases h; exact .bl _
  | .int _, _, _, h => by cases h; exact .int _
  | .str _, _, _, h => by cases h; exact .str _
  | .list ds, _, n, _ => by simp [noL] at n
  | .tuple ds, _, n, h => by
    cases h with
    | tup a b => exact .tup (hT _ _ a) (dpAll_tups hT ds _ (by simpa [noL] using n) b)
  | .dict _, _, n, _ => by simp [noL] at n
theorem dpAll_tups {K : PySem.W.Frag} {H H' : Hp} (hT : ∀ a xs, SqT K H a xs → SqT K H' a xs) : ∀ (ds : List PyData) (vs : List V), noLAll ds = true → DpAll K H vs ds → DpAll K H' vs ds
  | [], _, _, h => by cases h; exact .nil
  | d :: ds, _, n, h => by
    simp only [noLAll, Bool.and_eq_true] at n
    cases h with
    | cons a b => exact .cons (dp_tups hT d _ n.1 a) (dpAll_tups hT ds _ n.2 b)
end
theorem noL_strs : ∀ ws : List Str, noLAll (ws.map PyData.str) = true
  | [] => rfl
  | z :: ws => by simp [noLAll, noL, noL_strs ws]
theorem noL_wt (ws : List Str) : noL (wt ws) = true := by
  unfold wt
  simpa [noL] using noL_strs ws
theorem noL_key (ws : List Str) : noL (keyD ws) = true := by
  unfold keyD
  simp [noL, noLAll, noL_wt]
/-- the data d, which a change of the list at P leaves alone -/
def Alike (K : PySem.W.Frag) (P : Addr) (H : Hp) (x : V) (d : PyData) : Prop := (noL d = true ∧ Dp K H x d) ∨ ∃ (r : Addr) (ps : List Addr) (ws : List Str), x = .ref r ∧ r ≠ P ∧ H r = some (.lst (ps.map V.ref)) ∧ Tups K H ps ws ∧ d = .list (begD ws ps.length)
theorem Tups.mono {K : PySem.W.Frag} {H H' : Hp} {ps : List Addr} {ws : List Str} (h : Tups K H ps ws) (hT : ∀ a xs, SqT K H a xs → SqT K H' a xs) : Tups K H' ps ws := fun j p e => hT _ _ (h j p e)
theorem Alike.same {K : PySem.W.Frag} {P : Addr} {H H' : Hp} {x : V} {d : PyData} (h : Alike K P H x d) (s : Same H H') : Alike K P H' x d := by
  rcases h with ⟨h1, h2⟩ | ⟨r, ps, ws, h1, h2, h3, h4, h5⟩
  · exact .inl ⟨h1, dp_same s h2⟩
  · exact .inr ⟨r, ps, ws, h1, h2, s _ _ h3, h4.mono fun _ _ => same_T s, h5⟩
theorem Alike.app {K : PySem.W.Frag} {P : Addr} {H : Hp} {x : V} {d : PyData} {xs ys : List V} (h : Alike K P H x d) (hP : H P = some (.lst xs)) : Alike K P (upd H P (.lst ys)) x d := by
  rcases h with ⟨h1, h2⟩ | ⟨r, ps, ws, h1, h2, h3, h4, h5⟩
  · exact .inl ⟨h1, dp_tups (fun _ _ q => sqT_list hP q) d x h1 h2⟩
  · exact .inr ⟨r, ps, ws, h1, h2, (upd_ne h2).trans h3, h4.mono fun _ _ q => sqT_list hP q, h5⟩
theorem Alike.dp {K : PySem.W.Frag} {P : Addr} {H : Hp} {x : V} {d : PyData} (h : Alike K P H x d) : Dp K H x d := by
  rcases h with ⟨h1, h2⟩ | ⟨r, ps, ws, h1, h2, h3, h4, h5⟩
  · exact h2
  · rw [h1, h5]
    exact .lst (.of h3) (tups_beg h4)
/-- a pair whose two are alike -/
def Pair0 (K : PySem.W.Frag) (H : Hp) (v : V) : Prop := ∃ (p : Addr) (x y : V) (d : PyData), v = .ref p ∧ SqT K H p [x, y] ∧ noL d = true ∧ Dp K H x d ∧ Dp K H y d ∧ Small d
theorem Pair0.same {K : PySem.W.Frag} {H H' : Hp} {v : V} (h : Pair0 K H v) (s : Same H H') : Pair0 K H' v := by
  obtain ⟨p, x, y, d, h1, h2, h3, h4, h5, h6⟩ := h
  exact ⟨p, x, y, d, h1, same_T s h2, h3, dp_same s h4, dp_same s h5, h6⟩
def Pair (K : PySem.W.Frag) (P : Addr) (H : Hp) (v : V) : Prop := ∃ (p : Addr) (x y : V) (d : PyData), v = .ref p ∧ SqT K H p [x, y] ∧ Alike K P H x d ∧ Alike K P H y d ∧ Small d
theorem Pair0.on {K : PySem.W.Frag} {H : Hp} {v : V} (h : Pair0 K H v) (P : Addr) : Pair K P H v := by
  obtain ⟨p, x, y, d, h1, h2, h3, h4, h5, h6⟩ := h
  exact ⟨p, x, y, d, h1, h2, .inl ⟨h3, h4⟩, .inl ⟨h3, h5⟩, h6⟩
theorem Pair.same {K : PySem.W.Frag} {P : Addr} {H H' : Hp} {v : V} (h : Pair K P H v) (s : Same H H') : Pair K P H' v := by
  obtain ⟨p, x, y, d, h1, h2, h3, h4, h5⟩ := h
  exact ⟨p, x, y, d, h1, same_T s h2, h3.same s, h4.same s, h5⟩
theorem Pair.app {K : PySem.W.Frag} {P : Addr} {H : Hp} {v : V} {xs ys : List V} (h : Pair K P H v) (hP : H P = some (.lst xs)) : Pair K P (upd H P (.lst ys)) v := by
  obtain ⟨p, x, y, d, h1, h2, h3, h4, h5⟩ := h
  exact ⟨p, x, y, d, h1, sqT_list hP h2, h3.app hP, h4.app hP, h5⟩
theorem neE' {x y : V} (h : x = y) : (!decide (x = y)) = false := by
  rw [h]
  simp
theorem odd_a {m : Nat} (h : Odd ["a"] m) : m ≤ 1 := h.lt
section
variable {P : Program} {w : World} {K : PySem.W.Frag} {mg : Str → Option Value} {base : Heap} {f : Addr} {fd : FuncData} {Cs : Nat → Addr} {cL : Addr}
def gSnd (vs zs : List V) : List V := vs ++ zs
structure Calls (P : Program) (w : World) (K : PySem.W.Frag) (mg : Str → Option Value) (base : Heap) : Prop where
  choose : Df P w K mg base 2 "_law_choose" ["_law_well_here", "_law_things"] (spChoose K)
  any : Df P w K mg base 3 "_law_any" ["_law_well_here"] (spAny K)
  word : Df P w K mg base 1 "is_word" ["value"] (spWord K)
  wordK : DfK P w K mg base 1 "is_word" ["value"] ["value"] gSnd (spWord K)
  addr : Df P w K mg base 2 "is_address" ["value"] (spAddr K)
  addrK : DfK P w K mg base 2 "is_address" ["value"] ["value"] gSnd (spAddr K)
  day : Df P w K mg base 2 "is_day" ["value"] (spDay K)
  dayK : DfK P w K mg base 2 "is_day" ["value"] ["value"] gSnd (spDay K)
  begins : Df P w K mg base 1 "begins" ["address", "beginning"] (spBegins K)
  beginsK : DfK P w K mg base 1 "begins" ["address", "beginning"] ["beginning", "address"] gBack (spBegins K)
  rest : Df P w K mg base 1 "rest_of" ["address", "beginning"] (spRest K)
  restK : DfK P w K mg base 1 "rest_of" ["address", "beginning"] ["beginning", "address"] gBack (spRest K)
  key : Df P w K mg base 1 "address_key" ["address"] (spKey K)
  keyK : DfK P w K mg base 1 "address_key" ["address"] ["address"] gSnd (spKey K)
  begs : Df P w K mg base 1 "beginnings" ["address"] (spBegs K)
  begsK : DfK P w K mg base 1 "beginnings" ["address"] ["address"] gSnd (spBegs K)
  strange : Df P w K mg base 2 "strange_word" ["words"] (spStrange K)
  strangeK : DfK P w K mg base 2 "strange_word" ["words"] ["words"] gSnd (spStrange K)
def spBy : Sp := fun vs H Q _ => ∃ wa : Addr, vs = [.ref wa] ∧ Well H wa ∧ ∀ H', Well H' wa → Sb wa H H' → Q (.bl true) H'
theorem ok_by (Fd : Fun K "_law_by_name" "_law_by_name" sBy f fd) (T : Tx mg) (D : Calls P w K mg base) : FnG P w K mg base 4 f fd ["_law_well_here"] spBy := by
  refine Fun.okG Fd scBy (fun vs H Q E h => ?_) (fun cdv A outer s H vs Q E hG hr h => ?_)
  · obtain ⟨wa, rfl, _⟩ := h
    rfl
  · obtain ⟨wa, rfl, hw, q⟩ := h
    have nd := scBy.nd
    refine ⟨_, pss_cons (ps_par (i := 1) (j := 2) (by rfl) nd rfl rfl (by decide) rfl rfl (pa_cons (pe_df D.choose hr (pa_cons (pv 0) (pa_cons (pe_lst (pa_cons (pe_tup (pa_cons pe_str (pa_cons pe_str pa_nil))) (pa_cons (pe_tup pa_nil) (pa_cons (pe_tup (pa_cons pe_str pa_nil)) pa_nil)))) pa_nil))) (pa_cons (pe_df D.any hr (pa_cons (pv 0) pa_nil)) pa_nil)) (by rfl))
      (pss_cons (ps_set (i := 3) nd rfl (Or.inl rfl) (pe_lst (pa_cons (pe_tup (pa_cons (pe_df D.word hr (pa_cons (pv 2) pa_nil)) (pa_cons (pe_dk D.wordK hr (pk_cons (pv 2) pk_nil)) pa_nil))) (pa_cons (pe_tup (pa_cons (pe_df D.addr hr (pa_cons (pv 2) pa_nil)) (pa_cons (pe_dk D.addrK hr (pk_cons (pv 2) pk_nil)) pa_nil))) pa_nil))))
      (pss_cons (ps_set (i := 3) nd rfl (Or.inl rfl) (pe_op op_cat (pv 3) (pe_lst (pa_cons (pe_tup (pa_cons (pe_df D.day hr (pa_cons (pv 2) pa_nil)) (pa_cons (pe_dk D.dayK hr (pk_cons (pv 2) pk_nil)) pa_nil))) pa_nil))))
      (pss_cons (ps_set (i := 3) nd rfl (Or.inl rfl) (pe_op op_cat (pv 3) (pe_lst (pa_cons (pe_tup (pa_cons (pe_df D.begins hr (pa_cons (pv 1) (pa_cons (pe_tup (pa_cons pe_str pa_nil)) pa_nil))) (pa_cons (pe_dk D.beginsK hr (pk_cons (pe_tup (pa_cons pe_str pa_nil)) (pk_cons (pv 1) pk_nil))) pa_nil))) pa_nil))))
      (pss_cons (ps_expr (pe_bm PySem.F.plainAttrs_list PySem.F.slot_list_append PySem.F.type_list_append mt_append (pv 3) (pa_cons (pe_tup (pa_cons (pe_df D.rest hr (pa_cons (pe_op op_catW (pv 1) (pe_tup (pa_cons pe_str pa_nil))) (pa_cons (pv 1) pa_nil))) (pa_cons (pe_dk D.restK hr (pk_cons (pv 1) (pk_cons (pe_op op_catW (pv 1) (pe_tup (pa_cons pe_str pa_nil))) pk_nil))) pa_nil))) pa_nil)))
      (pss_cons (ps_expr (pe_bm PySem.F.plainAttrs_list PySem.F.slot_list_append PySem.F.type_list_append mt_append (pv 3) (pa_cons (pe_tup (pa_cons (pe_df D.key hr (pa_cons (pv 1) pa_nil)) (pa_cons (pe_dk D.keyK hr (pk_cons (pv 1) pk_nil)) pa_nil))) pa_nil)))
      (pss_cons (ps_expr (pe_bm PySem.F.plainAttrs_list PySem.F.slot_list_append PySem.F.type_list_append mt_append (pv 3) (pa_cons (pe_tup (pa_cons (pe_df D.begs hr (pa_cons (pv 1) pa_nil)) (pa_cons (pe_dk D.begsK hr (pk_cons (pv 1) pk_nil)) pa_nil))) pa_nil)))
      (pss_cons (ps_expr (pe_bm PySem.F.plainAttrs_list PySem.F.slot_list_append PySem.F.type_list_append mt_append (pv 3) (pa_cons (pe_tup (pa_cons (pe_df D.strange hr (pa_cons (pe_lst (pa_cons pe_str pa_nil)) pa_nil)) (pa_cons (pe_dk D.strangeK hr (pk_cons (pe_lst (pa_cons pe_str pa_nil)) pk_nil)) pa_nil))) pa_nil)))
      (pss_one (ps_ret (pe_cmpR (op_eq0 hr.units) (pe_lc (own := [("_law_pair", 4)]) (g := gName 4) (by rfl) nd (pi_list (pv 3)) (blkOk_by (own := [("_law_pair", 4)]) (N := byN) (sc := defScope sBy) (by decide +kernel)) (fun _ _ _ _ _ => pg_name (i := 4) nd rfl (Or.inl rfl))
        (fun _ _ _ _ _ => pts_one (pt_cmpR op_ne (pe_callB (call_reprK (K := K) (P := P) (w := w) hG hr.units) (by rfl) T.repr (by decide +kernel) (pa_cons (pe_ix (ix_tupK (K := K)) (pv 4) pe_int (fun _ _ => rfl)) pa_nil)) (pe_callB (call_reprK (K := K) (P := P) (w := w) hG hr.units) (by rfl) T.repr (by decide +kernel) (pa_cons (pe_ix (ix_tupK (K := K)) (pv 4) pe_int (fun _ _ => rfl)) pa_nil)) (nomark _))) (fun _ _ _ _ _ => pv 4)) (pe_lst pa_nil) (nomark _))))))))))), ?_⟩
    refine ⟨_, rfl, (show 2 ≤ sizeLine by decide), fun t0 m0 => ?_⟩
    have y0 := Same.new (o := .tup [.str "a", .str "b"]) m0
    refine ⟨(show 0 ≤ sizeLine by decide), fun t1 m1 => ?_⟩
    have y1 := Same.new (o := .tup []) m1
    refine ⟨(show 1 ≤ sizeLine by decide), fun t2 m2 => ?_⟩
    have y2 := Same.new (o := .tup [.str "c"]) m2
    refine ⟨(show 3 ≤ sizeLine by decide), fun p0 np0 => ?_⟩
    have y3 := Same.new (o := .lst [.ref t0, .ref t1, .ref t2]) np0
    have x2 := y2.trans y3
    have x1 := y1.trans x2
    have x0 := y0.trans x1
    refine ⟨wa, p0, _, rfl, hw.same x0, .of upd_same, (by intro e; cases e), (show 3 ≤ 1000 by decide), fun v G1 hv W1 s1 => ?_⟩
    obtain ⟨a, ws, rfl, hws, hS1⟩ : ∃ (a : Addr) (ws : List Str), v = .ref a ∧ ws ∈ ones ∧ SqT K G1 a (ws.map V.str) := by
      simp only [List.mem_cons, List.not_mem_nil, or_false] at hv
      rcases hv with rfl | rfl | rfl
      · exact ⟨t0, ["a", "b"], rfl, by decide +kernel, seqT (hw.same x0) s1 (.of (x1 _ _ upd_same))⟩
      · exact ⟨t1, [], rfl, by decide +kernel, seqT (hw.same x0) s1 (.of (x2 _ _ upd_same))⟩
      · exact ⟨t2, ["c"], rfl, by decide +kernel, seqT (hw.same x0) s1 (.of (y3 _ _ upd_same))⟩
    have b1 : Sb wa H G1 := (Sb.of x0).trans s1
    have O := one_of hws
    refine ⟨_, rfl, wa, rfl, W1, fun th G2 hth W2 s2 => ⟨_, _, rfl, ?_⟩⟩
    have hS := seqT W1 s2 hS1
    have b2 := b1.trans s2
    obtain ⟨d, hd, hp, hf⟩ := hth
    have ss2 : Same G2 G2 := Same.refl _
    refine ⟨_, rfl, th, d, rfl, hd, hf.1, _, rfl, rfl, th, d, rfl, hd, hf.1, (show 2 ≤ sizeLine by decide), fun u1 nu1 => ?_⟩
    have zu1 := Same.new (o := .tup [.bl (wordD d), .bl (wordD d)]) nu1
    have qu1 : Pair0 K (upd G2 u1 (.tup [.bl (wordD d), .bl (wordD d)])) (.ref u1) := ⟨u1, _, _, .bool (wordD d), rfl, .of upd_same, rfl, dp_same zu1 (.bl _), dp_same zu1 (.bl _), small_bool _⟩
    generalize upd G2 u1 (.tup [.bl (wordD d), .bl (wordD d)]) = G3 at *
    replace ss2 := ss2.trans zu1
    refine ⟨_, rfl, th, d, rfl, hd.same ss2, hf, _, rfl, rfl, th, d, rfl, hd.same ss2, hf, (show 2 ≤ sizeLine by decide), fun u2 nu2 => ?_⟩
    have zu2 := Same.new (o := .tup [.bl (addrD d), .bl (addrD d)]) nu2
    have qu2 : Pair0 K (upd G3 u2 (.tup [.bl (addrD d), .bl (addrD d)])) (.ref u2) := ⟨u2, _, _, .bool (addrD d), rfl, .of upd_same, rfl, dp_same zu2 (.bl _), dp_same zu2 (.bl _), small_bool _⟩
    generalize upd G3 u2 (.tup [.bl (addrD d), .bl (addrD d)]) = G4 at *
    replace ss2 := ss2.trans zu2
    replace qu1 := qu1.same zu2
    refine ⟨(show 2 ≤ sizeLine by decide), fun p1 np1 => ?_⟩
    have zp1 := Same.new (o := .lst [.ref u1, .ref u2]) np1
    have hL := upd_same (H := G4) (a := p1) (o := .lst [.ref u1, .ref u2])
    generalize upd G4 p1 (.lst [.ref u1, .ref u2]) = G5 at *
    replace ss2 := ss2.trans zp1
    replace qu1 := qu1.same zp1
    replace qu2 := qu2.same zp1
    refine ⟨_, rfl, ?_⟩
    refine ⟨_, rfl, th, d, rfl, hd.same ss2, _, rfl, rfl, th, d, rfl, hd.same ss2, (show 2 ≤ sizeLine by decide), fun u3 nu3 => ?_⟩
    have zu3 := Same.new (o := .tup [.bl (numD 1000000 d), .bl (numD 1000000 d)]) nu3
    have qu3 : Pair0 K (upd G5 u3 (.tup [.bl (numD 1000000 d), .bl (numD 1000000 d)])) (.ref u3) := ⟨u3, _, _, .bool (numD 1000000 d), rfl, .of upd_same, rfl, dp_same zu3 (.bl _), dp_same zu3 (.bl _), small_bool _⟩
    generalize upd G5 u3 (.tup [.bl (numD 1000000 d), .bl (numD 1000000 d)]) = G6 at *
    replace ss2 := ss2.trans zu3
    replace qu1 := qu1.same zu3
    replace qu2 := qu2.same zu3
    replace hL := zu3 _ _ hL
    refine ⟨(show 1 ≤ sizeLine by decide), fun k2 nk2 => ?_⟩
    have zk2 := Same.new (o := .lst [.ref u3]) nk2
    have hk2 := upd_same (H := G6) (a := k2) (o := .lst [.ref u3])
    generalize upd G6 k2 (.lst [.ref u3]) = G7 at *
    replace ss2 := ss2.trans zk2
    replace qu1 := qu1.same zk2
    replace qu2 := qu2.same zk2
    replace qu3 := qu3.same zk2
    replace hL := zk2 _ _ hL
    refine ⟨p1, k2, _, _, rfl, rfl, hL, hk2, (show 3 ≤ sizeLine by decide), fun p2 np2 => ?_⟩
    have nPp2 := ss2.free np2
    have zp2 := Same.new (o := .lst ([.ref u1, .ref u2] ++ [.ref u3])) np2
    have hp2 := upd_same (H := G7) (a := p2) (o := .lst ([.ref u1, .ref u2] ++ [.ref u3]))
    generalize upd G7 p2 (.lst ([.ref u1, .ref u2] ++ [.ref u3])) = G8 at *
    replace ss2 := ss2.trans zp2
    replace qu1 := qu1.same zp2
    replace qu2 := qu2.same zp2
    replace qu3 := qu3.same zp2
    replace hL := zp2 _ _ hL
    clear hL
    have hL : G8 p2 = some (.lst [V.ref u1, V.ref u2, V.ref u3]) := hp2
    refine ⟨_, rfl, ?_⟩
    refine ⟨_, rfl, (show 1 ≤ sizeLine by decide), fun e1 ne1 => ?_⟩
    have ze1 := Same.new (o := .tup [.str "a"]) ne1
    have he1 : SqT K (upd G8 e1 (.tup [.str "a"])) e1 (([Str.ofString "a"]).map V.str) := .of upd_same
    generalize upd G8 e1 (.tup [.str "a"]) = G9 at *
    replace ss2 := ss2.trans ze1
    replace qu1 := qu1.same ze1
    replace qu2 := qu2.same ze1
    replace qu3 := qu3.same ze1
    replace hL := ze1 _ _ hL
    refine ⟨a, e1, ws, [Str.ofString "a"], rfl, same_T ss2 hS, he1, O.adr, (adr_of (ws := [Str.ofString "a"]) (by decide +kernel)).1, fun G10 ze2 => ?_⟩
    replace ss2 := ss2.trans ze2
    replace qu1 := qu1.same ze2
    replace qu2 := qu2.same ze2
    replace qu3 := qu3.same ze2
    replace hL := ze2 _ _ hL
    refine ⟨(show 1 ≤ sizeLine by decide), fun e2 ne2 => ?_⟩
    have ze3 := Same.new (o := .tup [.str "a"]) ne2
    have he2 : SqT K (upd G10 e2 (.tup [.str "a"])) e2 (([Str.ofString "a"]).map V.str) := .of upd_same
    generalize upd G10 e2 (.tup [.str "a"]) = G11 at *
    replace ss2 := ss2.trans ze3
    replace qu1 := qu1.same ze3
    replace qu2 := qu2.same ze3
    replace qu3 := qu3.same ze3
    replace hL := ze3 _ _ hL
    refine ⟨_, rfl, rfl, a, e2, ws, [Str.ofString "a"], rfl, same_T ss2 hS, he2, O.adr, (adr_of (ws := [Str.ofString "a"]) (by decide +kernel)).1, fun G12 ze4 => ?_⟩
    replace ss2 := ss2.trans ze4
    replace qu1 := qu1.same ze4
    replace qu2 := qu2.same ze4
    replace qu3 := qu3.same ze4
    replace hL := ze4 _ _ hL
    refine ⟨(show 2 ≤ sizeLine by decide), fun u4 nu4 => ?_⟩
    have zu4 := Same.new (o := .tup [.bl (decide (ws.take ([Str.ofString "a"]).length = [Str.ofString "a"])), .bl (decide (ws.take ([Str.ofString "a"]).length = [Str.ofString "a"]))]) nu4
    have qu4 : Pair0 K (upd G12 u4 (.tup [.bl (decide (ws.take ([Str.ofString "a"]).length = [Str.ofString "a"])), .bl (decide (ws.take ([Str.ofString "a"]).length = [Str.ofString "a"]))])) (.ref u4) := ⟨u4, _, _, .bool (decide (ws.take ([Str.ofString "a"]).length = [Str.ofString "a"])), rfl, .of upd_same, rfl, dp_same zu4 (.bl _), dp_same zu4 (.bl _), small_bool _⟩
    generalize upd G12 u4 (.tup [.bl (decide (ws.take ([Str.ofString "a"]).length = [Str.ofString "a"])), .bl (decide (ws.take ([Str.ofString "a"]).length = [Str.ofString "a"]))]) = G13 at *
    replace ss2 := ss2.trans zu4
    replace qu1 := qu1.same zu4
    replace qu2 := qu2.same zu4
    replace qu3 := qu3.same zu4
    replace hL := zu4 _ _ hL
    refine ⟨(show 1 ≤ sizeLine by decide), fun k3 nk3 => ?_⟩
    have zk3 := Same.new (o := .lst [.ref u4]) nk3
    have hk3 := upd_same (H := G13) (a := k3) (o := .lst [.ref u4])
    generalize upd G13 k3 (.lst [.ref u4]) = G14 at *
    replace ss2 := ss2.trans zk3
    replace qu1 := qu1.same zk3
    replace qu2 := qu2.same zk3
    replace qu3 := qu3.same zk3
    replace qu4 := qu4.same zk3
    replace hL := zk3 _ _ hL
    refine ⟨p2, k3, _, _, rfl, rfl, hL, hk3, (show 4 ≤ sizeLine by decide), fun p3 np3 => ?_⟩
    have nPp3 := ss2.free np3
    have zp3 := Same.new (o := .lst ([.ref u1, .ref u2, .ref u3] ++ [.ref u4])) np3
    have hp3 := upd_same (H := G14) (a := p3) (o := .lst ([.ref u1, .ref u2, .ref u3] ++ [.ref u4]))
    generalize upd G14 p3 (.lst ([.ref u1, .ref u2, .ref u3] ++ [.ref u4])) = G15 at *
    replace ss2 := ss2.trans zp3
    replace qu1 := qu1.same zp3
    replace qu2 := qu2.same zp3
    replace qu3 := qu3.same zp3
    replace qu4 := qu4.same zp3
    replace hL := zp3 _ _ hL
    clear hL
    have hL : G15 p3 = some (.lst [V.ref u1, V.ref u2, V.ref u3, V.ref u4]) := hp3
    replace qu1 := qu1.on p3
    replace qu2 := qu2.on p3
    replace qu3 := qu3.on p3
    replace qu4 := qu4.on p3
    refine ⟨_, rfl, .inl ⟨rfl, _, .of hL⟩, ?_⟩
    refine ⟨_, rfl, (show 1 ≤ sizeLine by decide), fun f1 nf1 => ?_⟩
    have zf1 := Same.new (o := .tup [.str "d"]) nf1
    have hf1 : SqT K (upd G15 f1 (.tup [.str "d"])) f1 (([Str.ofString "d"]).map V.str) := .of upd_same
    generalize upd G15 f1 (.tup [.str "d"]) = G16 at *
    replace ss2 := ss2.trans zf1
    replace qu1 := qu1.same zf1
    replace qu2 := qu2.same zf1
    replace qu3 := qu3.same zf1
    replace qu4 := qu4.same zf1
    replace hL := zf1 _ _ hL
    refine ⟨a, f1, _, _, rfl, rfl, same_T ss2 hS, hf1, (by have := O.len; rw [List.length_map, List.length_map, sizeLine_eq]; show ws.length + 1 ≤ _; omega), fun g1 G17 zg1 hg1 => ?_⟩
    rw [← List.map_append] at hg1
    replace ss2 := ss2.trans zg1
    replace qu1 := qu1.same zg1
    replace qu2 := qu2.same zg1
    replace qu3 := qu3.same zg1
    replace qu4 := qu4.same zg1
    replace hL := zg1 _ _ hL
    refine ⟨_, rfl, g1, a, ws ++ [Str.ofString "d"], ws, rfl, hg1, same_T ss2 hS, fun r1 G18 zr1 hr1 => ?_⟩
    replace ss2 := ss2.trans zr1
    replace qu1 := qu1.same zr1
    replace qu2 := qu2.same zr1
    replace qu3 := qu3.same zr1
    replace qu4 := qu4.same zr1
    replace hL := zr1 _ _ hL
    refine ⟨_, rfl, ?_⟩
    refine ⟨_, rfl, (show 1 ≤ sizeLine by decide), fun f2 nf2 => ?_⟩
    have zf2 := Same.new (o := .tup [.str "d"]) nf2
    have hf2 : SqT K (upd G18 f2 (.tup [.str "d"])) f2 (([Str.ofString "d"]).map V.str) := .of upd_same
    generalize upd G18 f2 (.tup [.str "d"]) = G19 at *
    replace ss2 := ss2.trans zf2
    replace qu1 := qu1.same zf2
    replace qu2 := qu2.same zf2
    replace qu3 := qu3.same zf2
    replace qu4 := qu4.same zf2
    replace hL := zf2 _ _ hL
    refine ⟨a, f2, _, _, rfl, rfl, same_T ss2 hS, hf2, (by have := O.len; rw [List.length_map, List.length_map, sizeLine_eq]; show ws.length + 1 ≤ _; omega), fun g2 G20 zg2 hg2 => ?_⟩
    rw [← List.map_append] at hg2
    replace ss2 := ss2.trans zg2
    replace qu1 := qu1.same zg2
    replace qu2 := qu2.same zg2
    replace qu3 := qu3.same zg2
    replace qu4 := qu4.same zg2
    replace hL := zg2 _ _ hL
    replace hr1 := same_T zg2 (same_T zf2 hr1)
    refine ⟨rfl, g2, a, ws ++ [Str.ofString "d"], ws, rfl, hg2, same_T ss2 hS, fun r2 G21 zr2 hr2 => ?_⟩
    replace ss2 := ss2.trans zr2
    replace qu1 := qu1.same zr2
    replace qu2 := qu2.same zr2
    replace qu3 := qu3.same zr2
    replace qu4 := qu4.same zr2
    replace hL := zr2 _ _ hL
    replace hr1 := same_T zr2 hr1
    refine ⟨(show 2 ≤ sizeLine by decide), fun u5 nu5 => ?_⟩
    have zu5 := Same.new (o := .tup [.ref r1, .ref r2]) nu5
    have qu5 : Pair K p3 (upd G21 u5 (.tup [.ref r1, .ref r2])) (.ref u5) := ⟨u5, _, _, wt ((ws ++ [Str.ofString "d"]).drop ws.length), rfl, .of upd_same, Alike.same (.inl ⟨noL_wt _, dp_wt hr1⟩) zu5, Alike.same (.inl ⟨noL_wt _, dp_wt hr2⟩) zu5, O.rest⟩
    generalize upd G21 u5 (.tup [.ref r1, .ref r2]) = G22 at *
    replace ss2 := ss2.trans zu5
    replace qu1 := qu1.same zu5
    replace qu2 := qu2.same zu5
    replace qu3 := qu3.same zu5
    replace qu4 := qu4.same zu5
    replace hL := zu5 _ _ hL
    refine ⟨p3, _, _, rfl, rfl, hL, (show 4 < sizeLine by decide), ?_⟩
    replace qu1 := Pair.app (ys := [.ref u1, .ref u2, .ref u3, .ref u4] ++ [.ref u5]) qu1 hL
    replace qu2 := Pair.app (ys := [.ref u1, .ref u2, .ref u3, .ref u4] ++ [.ref u5]) qu2 hL
    replace qu3 := Pair.app (ys := [.ref u1, .ref u2, .ref u3, .ref u4] ++ [.ref u5]) qu3 hL
    replace qu4 := Pair.app (ys := [.ref u1, .ref u2, .ref u3, .ref u4] ++ [.ref u5]) qu4 hL
    replace qu5 := Pair.app (ys := [.ref u1, .ref u2, .ref u3, .ref u4] ++ [.ref u5]) qu5 hL
    replace ss2 : Same G2 (upd G22 p3 (.lst ([.ref u1, .ref u2, .ref u3, .ref u4] ++ [.ref u5]))) := fun b o e => (upd_ne (ne_of_none e nPp3)).trans (ss2 b o e)
    have hL2 := upd_same (H := G22) (a := p3) (o := .lst ([.ref u1, .ref u2, .ref u3, .ref u4] ++ [.ref u5]))
    clear hL
    generalize upd G22 p3 (.lst ([.ref u1, .ref u2, .ref u3, .ref u4] ++ [.ref u5])) = G23 at *
    have hL : G23 p3 = some (.lst [V.ref u1, V.ref u2, V.ref u3, V.ref u4, V.ref u5]) := hL2
    clear hL2
    refine ⟨_, rfl, .inl ⟨rfl, _, .of hL⟩, ?_⟩
    refine ⟨_, rfl, a, ws, rfl, same_T ss2 hS, fun r3 G24 zr3 d3 => ?_⟩
    replace ss2 := ss2.trans zr3
    replace qu1 := qu1.same zr3
    replace qu2 := qu2.same zr3
    replace qu3 := qu3.same zr3
    replace qu4 := qu4.same zr3
    replace qu5 := qu5.same zr3
    replace hL := zr3 _ _ hL
    refine ⟨_, rfl, rfl, a, ws, rfl, same_T ss2 hS, fun r4 G25 zr4 d4 => ?_⟩
    replace ss2 := ss2.trans zr4
    replace qu1 := qu1.same zr4
    replace qu2 := qu2.same zr4
    replace qu3 := qu3.same zr4
    replace qu4 := qu4.same zr4
    replace qu5 := qu5.same zr4
    replace hL := zr4 _ _ hL
    replace d3 := dp_same zr4 d3
    refine ⟨(show 2 ≤ sizeLine by decide), fun u6 nu6 => ?_⟩
    have zu6 := Same.new (o := .tup [.ref r3, .ref r4]) nu6
    have qu6 : Pair K p3 (upd G25 u6 (.tup [.ref r3, .ref r4])) (.ref u6) := ⟨u6, _, _, keyD ws, rfl, .of upd_same, Alike.same (.inl ⟨noL_key _, d3⟩) zu6, Alike.same (.inl ⟨noL_key _, d4⟩) zu6, O.key⟩
    generalize upd G25 u6 (.tup [.ref r3, .ref r4]) = G26 at *
    replace ss2 := ss2.trans zu6
    replace qu1 := qu1.same zu6
    replace qu2 := qu2.same zu6
    replace qu3 := qu3.same zu6
    replace qu4 := qu4.same zu6
    replace qu5 := qu5.same zu6
    replace hL := zu6 _ _ hL
    refine ⟨p3, _, _, rfl, rfl, hL, (show 5 < sizeLine by decide), ?_⟩
    replace qu1 := Pair.app (ys := [.ref u1, .ref u2, .ref u3, .ref u4, .ref u5] ++ [.ref u6]) qu1 hL
    replace qu2 := Pair.app (ys := [.ref u1, .ref u2, .ref u3, .ref u4, .ref u5] ++ [.ref u6]) qu2 hL
    replace qu3 := Pair.app (ys := [.ref u1, .ref u2, .ref u3, .ref u4, .ref u5] ++ [.ref u6]) qu3 hL
    replace qu4 := Pair.app (ys := [.ref u1, .ref u2, .ref u3, .ref u4, .ref u5] ++ [.ref u6]) qu4 hL
    replace qu5 := Pair.app (ys := [.ref u1, .ref u2, .ref u3, .ref u4, .ref u5] ++ [.ref u6]) qu5 hL
    replace qu6 := Pair.app (ys := [.ref u1, .ref u2, .ref u3, .ref u4, .ref u5] ++ [.ref u6]) qu6 hL
    replace ss2 : Same G2 (upd G26 p3 (.lst ([.ref u1, .ref u2, .ref u3, .ref u4, .ref u5] ++ [.ref u6]))) := fun b o e => (upd_ne (ne_of_none e nPp3)).trans (ss2 b o e)
    have hL2 := upd_same (H := G26) (a := p3) (o := .lst ([.ref u1, .ref u2, .ref u3, .ref u4, .ref u5] ++ [.ref u6]))
    clear hL
    generalize upd G26 p3 (.lst ([.ref u1, .ref u2, .ref u3, .ref u4, .ref u5] ++ [.ref u6])) = G27 at *
    have hL : G27 p3 = some (.lst [V.ref u1, V.ref u2, V.ref u3, V.ref u4, V.ref u5, V.ref u6]) := hL2
    clear hL2
    refine ⟨_, rfl, .inl ⟨rfl, _, .of hL⟩, ?_⟩
    refine ⟨_, rfl, a, ws, rfl, same_T ss2 hS, O.adr.1, fun r5 ps5 G28 zr5 nr5 h5 l5 t5 => ?_⟩
    have ne5 : r5 ≠ p3 := (ne_of_none hL nr5).symm
    have a5 : Alike K p3 _ (.ref r5) (.list (begD ws ps5.length)) := .inr ⟨r5, ps5, ws, rfl, ne5, h5, t5, rfl⟩
    rw [l5] at a5
    replace ss2 := ss2.trans zr5
    replace qu1 := qu1.same zr5
    replace qu2 := qu2.same zr5
    replace qu3 := qu3.same zr5
    replace qu4 := qu4.same zr5
    replace qu5 := qu5.same zr5
    replace qu6 := qu6.same zr5
    replace hL := zr5 _ _ hL
    refine ⟨_, rfl, rfl, a, ws, rfl, same_T ss2 hS, O.adr.1, fun r6 ps6 G29 zr6 nr6 h6 l6 t6 => ?_⟩
    have ne6 : r6 ≠ p3 := (ne_of_none hL nr6).symm
    have a6 : Alike K p3 _ (.ref r6) (.list (begD ws ps6.length)) := .inr ⟨r6, ps6, ws, rfl, ne6, h6, t6, rfl⟩
    rw [l6] at a6
    replace a5 := a5.same zr6
    replace ss2 := ss2.trans zr6
    replace qu1 := qu1.same zr6
    replace qu2 := qu2.same zr6
    replace qu3 := qu3.same zr6
    replace qu4 := qu4.same zr6
    replace qu5 := qu5.same zr6
    replace qu6 := qu6.same zr6
    replace hL := zr6 _ _ hL
    refine ⟨(show 2 ≤ sizeLine by decide), fun u7 nu7 => ?_⟩
    have zu7 := Same.new (o := .tup [.ref r5, .ref r6]) nu7
    have qu7 : Pair K p3 (upd G29 u7 (.tup [.ref r5, .ref r6])) (.ref u7) := ⟨u7, _, _, .list (begD ws (ws.length + 1)), rfl, .of upd_same, Alike.same a5 zu7, Alike.same a6 zu7, O.beg⟩
    generalize upd G29 u7 (.tup [.ref r5, .ref r6]) = G30 at *
    replace ss2 := ss2.trans zu7
    replace qu1 := qu1.same zu7
    replace qu2 := qu2.same zu7
    replace qu3 := qu3.same zu7
    replace qu4 := qu4.same zu7
    replace qu5 := qu5.same zu7
    replace qu6 := qu6.same zu7
    replace hL := zu7 _ _ hL
    refine ⟨p3, _, _, rfl, rfl, hL, (show 6 < sizeLine by decide), ?_⟩
    replace qu1 := Pair.app (ys := [.ref u1, .ref u2, .ref u3, .ref u4, .ref u5, .ref u6] ++ [.ref u7]) qu1 hL
    replace qu2 := Pair.app (ys := [.ref u1, .ref u2, .ref u3, .ref u4, .ref u5, .ref u6] ++ [.ref u7]) qu2 hL
    replace qu3 := Pair.app (ys := [.ref u1, .ref u2, .ref u3, .ref u4, .ref u5, .ref u6] ++ [.ref u7]) qu3 hL
    replace qu4 := Pair.app (ys := [.ref u1, .ref u2, .ref u3, .ref u4, .ref u5, .ref u6] ++ [.ref u7]) qu4 hL
    replace qu5 := Pair.app (ys := [.ref u1, .ref u2, .ref u3, .ref u4, .ref u5, .ref u6] ++ [.ref u7]) qu5 hL
    replace qu6 := Pair.app (ys := [.ref u1, .ref u2, .ref u3, .ref u4, .ref u5, .ref u6] ++ [.ref u7]) qu6 hL
    replace qu7 := Pair.app (ys := [.ref u1, .ref u2, .ref u3, .ref u4, .ref u5, .ref u6] ++ [.ref u7]) qu7 hL
    replace ss2 : Same G2 (upd G30 p3 (.lst ([.ref u1, .ref u2, .ref u3, .ref u4, .ref u5, .ref u6] ++ [.ref u7]))) := fun b o e => (upd_ne (ne_of_none e nPp3)).trans (ss2 b o e)
    have hL2 := upd_same (H := G30) (a := p3) (o := .lst ([.ref u1, .ref u2, .ref u3, .ref u4, .ref u5, .ref u6] ++ [.ref u7]))
    clear hL
    generalize upd G30 p3 (.lst ([.ref u1, .ref u2, .ref u3, .ref u4, .ref u5, .ref u6] ++ [.ref u7])) = G31 at *
    have hL : G31 p3 = some (.lst [V.ref u1, V.ref u2, V.ref u3, V.ref u4, V.ref u5, V.ref u6, V.ref u7]) := hL2
    clear hL2
    refine ⟨_, rfl, .inl ⟨rfl, _, .of hL⟩, ?_⟩
    refine ⟨(show 1 ≤ sizeLine by decide), fun l1 nl1 => ?_⟩
    have zl1 := Same.new (o := .lst [.str "a"]) nl1
    have hl1 : SqL K (upd G31 l1 (.lst [.str "a"])) l1 (([Str.ofString "a"]).map V.str) := .of upd_same
    generalize upd G31 l1 (.lst [.str "a"]) = G32 at *
    replace ss2 := ss2.trans zl1
    replace qu1 := qu1.same zl1
    replace qu2 := qu2.same zl1
    replace qu3 := qu3.same zl1
    replace qu4 := qu4.same zl1
    replace qu5 := qu5.same zl1
    replace qu6 := qu6.same zl1
    replace qu7 := qu7.same zl1
    replace hL := zl1 _ _ hL
    refine ⟨l1, [Str.ofString "a"], rfl, .inl hl1, (show 1 ≤ 39 by decide), fun m1 G33 om1 zm1 => ?_⟩
    replace ss2 := ss2.trans zm1
    replace qu1 := qu1.same zm1
    replace qu2 := qu2.same zm1
    replace qu3 := qu3.same zm1
    replace qu4 := qu4.same zm1
    replace qu5 := qu5.same zm1
    replace qu6 := qu6.same zm1
    replace qu7 := qu7.same zm1
    replace hL := zm1 _ _ hL
    refine ⟨(show 1 ≤ sizeLine by decide), fun l2 nl2 => ?_⟩
    have zl2 := Same.new (o := .lst [.str "a"]) nl2
    have hl2 : SqL K (upd G33 l2 (.lst [.str "a"])) l2 (([Str.ofString "a"]).map V.str) := .of upd_same
    generalize upd G33 l2 (.lst [.str "a"]) = G34 at *
    replace ss2 := ss2.trans zl2
    replace qu1 := qu1.same zl2
    replace qu2 := qu2.same zl2
    replace qu3 := qu3.same zl2
    replace qu4 := qu4.same zl2
    replace qu5 := qu5.same zl2
    replace qu6 := qu6.same zl2
    replace qu7 := qu7.same zl2
    replace hL := zl2 _ _ hL
    refine ⟨rfl, l2, [Str.ofString "a"], rfl, .inl hl2, (show 1 ≤ 39 by decide), fun m2 G35 om2 zm2 => ?_⟩
    replace ss2 := ss2.trans zm2
    replace qu1 := qu1.same zm2
    replace qu2 := qu2.same zm2
    replace qu3 := qu3.same zm2
    replace qu4 := qu4.same zm2
    replace qu5 := qu5.same zm2
    replace qu6 := qu6.same zm2
    replace qu7 := qu7.same zm2
    replace hL := zm2 _ _ hL
    have e12 := om2.one om1
    subst e12
    refine ⟨(show 2 ≤ sizeLine by decide), fun u8 nu8 => ?_⟩
    have zu8 := Same.new (o := .tup [.str (seqW m2), .str (seqW m2)]) nu8
    have qu8 : Pair K p3 (upd G35 u8 (.tup [.str (seqW m2), .str (seqW m2)])) (.ref u8) := ⟨u8, _, _, .str (seqW m2), rfl, .of upd_same, Alike.same (.inl ⟨rfl, .str _⟩) zu8, Alike.same (.inl ⟨rfl, .str _⟩) zu8, (small_seq (odd_a om1))⟩
    generalize upd G35 u8 (.tup [.str (seqW m2), .str (seqW m2)]) = G36 at *
    replace ss2 := ss2.trans zu8
    replace qu1 := qu1.same zu8
    replace qu2 := qu2.same zu8
    replace qu3 := qu3.same zu8
    replace qu4 := qu4.same zu8
    replace qu5 := qu5.same zu8
    replace qu6 := qu6.same zu8
    replace qu7 := qu7.same zu8
    replace hL := zu8 _ _ hL
    refine ⟨p3, _, _, rfl, rfl, hL, (show 7 < sizeLine by decide), ?_⟩
    replace qu1 := Pair.app (ys := [.ref u1, .ref u2, .ref u3, .ref u4, .ref u5, .ref u6, .ref u7] ++ [.ref u8]) qu1 hL
    replace qu2 := Pair.app (ys := [.ref u1, .ref u2, .ref u3, .ref u4, .ref u5, .ref u6, .ref u7] ++ [.ref u8]) qu2 hL
    replace qu3 := Pair.app (ys := [.ref u1, .ref u2, .ref u3, .ref u4, .ref u5, .ref u6, .ref u7] ++ [.ref u8]) qu3 hL
    replace qu4 := Pair.app (ys := [.ref u1, .ref u2, .ref u3, .ref u4, .ref u5, .ref u6, .ref u7] ++ [.ref u8]) qu4 hL
    replace qu5 := Pair.app (ys := [.ref u1, .ref u2, .ref u3, .ref u4, .ref u5, .ref u6, .ref u7] ++ [.ref u8]) qu5 hL
    replace qu6 := Pair.app (ys := [.ref u1, .ref u2, .ref u3, .ref u4, .ref u5, .ref u6, .ref u7] ++ [.ref u8]) qu6 hL
    replace qu7 := Pair.app (ys := [.ref u1, .ref u2, .ref u3, .ref u4, .ref u5, .ref u6, .ref u7] ++ [.ref u8]) qu7 hL
    replace qu8 := Pair.app (ys := [.ref u1, .ref u2, .ref u3, .ref u4, .ref u5, .ref u6, .ref u7] ++ [.ref u8]) qu8 hL
    replace ss2 : Same G2 (upd G36 p3 (.lst ([.ref u1, .ref u2, .ref u3, .ref u4, .ref u5, .ref u6, .ref u7] ++ [.ref u8]))) := fun b o e => (upd_ne (ne_of_none e nPp3)).trans (ss2 b o e)
    have hL2 := upd_same (H := G36) (a := p3) (o := .lst ([.ref u1, .ref u2, .ref u3, .ref u4, .ref u5, .ref u6, .ref u7] ++ [.ref u8]))
    clear hL
    generalize upd G36 p3 (.lst ([.ref u1, .ref u2, .ref u3, .ref u4, .ref u5, .ref u6, .ref u7] ++ [.ref u8])) = G37 at *
    have hL : G37 p3 = some (.lst [V.ref u1, V.ref u2, V.ref u3, V.ref u4, V.ref u5, V.ref u6, V.ref u7, V.ref u8]) := hL2
    clear hL2
    have hall : ∀ x ∈ [V.ref u1, V.ref u2, V.ref u3, V.ref u4, V.ref u5, V.ref u6, V.ref u7, V.ref u8], Pair K p3 G37 x := fun x hx => by
      simp only [List.mem_cons, List.not_mem_nil, or_false] at hx
      rcases hx with rfl | rfl | rfl | rfl | rfl | rfl | rfl | rfl <;> assumption
    clear qu1 qu2 qu3 qu4 qu5 qu6 qu7 qu8
    refine ⟨_, rfl, p3, rfl, ⟨_, .of hL⟩, fun D2 hD2 => ?_⟩
    refine lc_list (K := K) (a := p3) (xs := [V.ref u1, V.ref u2, V.ref u3, V.ref u4, V.ref u5, V.ref u6, V.ref u7, V.ref u8]) (fun i G' => Same G37 G' ∧ G' D2 = some (.lst [])) ⟨Ld.Same.new hD2, upd_same⟩ (fun i G' _ h => h.1.seq (.of hL)) ?_ ?_
    · rintro e x G' hx ⟨sx, hx2⟩
      obtain ⟨p, x1, x2, dd, rfl, hs, ax, ay, sm⟩ := (hall x (List.mem_of_getElem? hx)).same sx
      refine ⟨rfl, _, rfl, p, _, 0, x1, rfl, rfl, hs, at_of (j := 0) rfl rfl, x1, dd, rfl, dp_rds ax.dp, sm, _, rfl, p, _, 1, x2, rfl, rfl, hs, at_of (j := 1) rfl rfl, x2, dd, rfl, dp_rds ay.dp, sm, rfl, _, rfl, ?_⟩
      rw [neE' rfl]
      exact iteF ⟨sx, hx2⟩
    · rintro G' ⟨sx, hx2⟩
      refine ⟨(show 0 ≤ sizeLine by decide), fun p6 n6 => ?_⟩
      have z6 := Same.new (o := .lst []) n6
      refine ⟨D2, p6, [], rfl, rfl, z6 _ _ hx2, upd_same, ?_⟩
      have fin := ss2.trans (sx.trans z6)
      exact q _ (W2.same fin) (b2.trans (.of fin))
end
end K3
namespace K3
open PySem L2 Ld
abbrev sLaw : Stmt := top 39
def lawN : List Str := ["_law_script", "_law_start", "_law_well_here", "_law_turn", "_law_one", "_law_other", "_law_own", "_law_line", "_law_some", "_law_named_here", "_law_held", "_law_kept", "_law_lists", "_law_errors", "_law_due", "_law_found", "_law_error", "_law_at"]
theorem scLaw : FnScope lawN ["_law_script"] (defScope sLaw) := ⟨rfl, rfl, rfl, by decide +kernel, rfl, by decide +kernel, by decide +kernel⟩
theorem lc_enum {K : PySem.W.Frag} {a : Addr} {xs : List V} {g : TG} {tt : TT} {te : TE} {vs : List Nat} {σ : L2.St} {H1 : Hp} {D : Addr} {Qd : Hp → Prop} (Pv : Nat → Hp → Prop) (h0 : Pv 0 (upd H1 D (.lst []))) (hl : ∀ i H, i ≤ xs.length → Pv i H → SqL K H a xs)
    (hs : ∀ i x T H, xs[i]? = some x → Pv i H → H T = none → g (.ref T) (wipe σ vs) (upd H T (.tup [.int (i : Nat), x])) fun σ2 H2 => wipe σ2 vs = wipe σ vs ∧ tt σ2 H2 fun b H3 =>
      if b = true then te σ2 H3 fun y H4 => ∃ acc, H4 D = some (.lst acc) ∧ acc.length < sizeLine ∧ Pv (i + 1) (upd H4 D (.lst (acc ++ [y]))) else Pv (i + 1) H3) (hd : ∀ H, Pv xs.length H → Qd H) :
    ∃ W : Nat → Nat → Hp → Prop, (∃ m, W 0 m (upd H1 D (.lst []))) ∧ ∀ i m H, W i m H →
      ((Ite K a).stop i H ∧ Qd H) ∨ ((Ite K a).go i H ∧ ∃ Nx : Hp → Prop, (∀ H', Nx H' → ∃ m', m' < m ∧ W (i + 1) m' H') ∧ ∀ x H', (Ite K a).yld i H x H' → g x (wipe σ vs) H' fun σ2 H2 => wipe σ2 vs = wipe σ vs ∧ tt σ2 H2 fun b H3 =>
        if b = true then te σ2 H3 fun y H4 => ∃ acc, H4 D = some (.lst acc) ∧ acc.length < sizeLine ∧ Nx (upd H4 D (.lst (acc ++ [y]))) else Nx H3) := by
  refine ⟨fun i m H => m + i = xs.length ∧ Pv i H, ⟨xs.length, rfl, h0⟩, fun i m H ⟨e, p⟩ => ?_⟩
  have q := hl i H (by omega) p
  by_cases hlt : i < xs.length
  · refine Or.inr ⟨⟨xs, xs[i], q, List.getElem?_eq_getElem hlt⟩, Pv (i + 1), fun H' p' => ⟨m - 1, by omega, by omega, p'⟩, fun v H' y => ?_⟩
    obtain ⟨T, x, rfl, hT, rfl, hx⟩ := y
    exact hs i x T H (hx xs q) p hT
  · have e2 : i = xs.length := by omega
    subst e2
    exact Or.inl ⟨⟨xs, q, Nat.le_refl _⟩, hd H p⟩
/-- an entry: errors that hold one thing, and what they are to hold -/
def Ent (K : PySem.W.Frag) (Cs : Nat → Addr) (H : Hp) (v : V) : Prop := ∃ (p r : Addr) (u : V) (es ds : Nat → Addr) (v0 : V) (d : PyData), v = .ref p ∧ SqT K H p [.ref r, u] ∧ H r = some (.lst ((List.range 13).map fun i => V.ref (es i))) ∧
  (∀ i < 13, ExV H (es i) (Cs i) (ds i) [(fieldN i, v0)]) ∧ Dd K H v0 d ∧ Dd K H u d ∧ Part d
theorem Ent.same {K : PySem.W.Frag} {Cs : Nat → Addr} {H H' : Hp} {v : V} (h : Ent K Cs H v) (s : Same H H') : Ent K Cs H' v := by
  obtain ⟨p, r, u, es, ds, v0, d, h1, h2, h3, h4, h5, h6, h7⟩ := h
  exact ⟨p, r, u, es, ds, v0, d, h1, same_T s h2, s _ _ h3, fun i hi => (h4 i hi).same s, h5.same s, h6.same s, h7⟩
theorem ddAll_rep {K : PySem.W.Frag} {H : Hp} {v : V} {d : PyData} (h : Dd K H v d) : ∀ n : Nat, DdAll K H (List.replicate n v) (List.replicate n d)
  | 0 => .nil
  | n + 1 => .cons h (ddAll_rep h n)
theorem small_rep {d : PyData} (h : Part d) : Small (.list (List.replicate 13 d)) := small_list (fun e he => by rw [(List.mem_replicate.mp he).2]; exact h) (by rw [List.length_replicate]; decide)
theorem cut06 (f : Nat → V) : cutV ((List.range 13).map f) none (some 6) = (List.range 6).map f := rfl
theorem cut610 (f : Nat → V) : cutV ((List.range 13).map f) (some 6) (some 10) = (List.range 4).map fun i => f (6 + i) := rfl
theorem get_range {f : Nat → V} {n i : Nat} {x : V} (h : ((List.range n).map f)[i]? = some x) : i < n ∧ x = f i := by
  rw [List.getElem?_map] at h
  by_cases hi : i < n
  · rw [List.getElem?_range hi] at h
    exact ⟨hi, (Option.some.inj h).symm⟩
  · rw [List.getElem?_eq_none (by rw [List.length_range]; omega)] at h
    cases h
theorem fieldV {i : Nat} (h : i < 6) : fieldN i = "value" := by
  match i, h with
  | 0, _ => rfl
  | 1, _ => rfl
  | 2, _ => rfl
  | 3, _ => rfl
  | 4, _ => rfl
  | 5, _ => rfl
theorem fieldNm {i : Nat} (h : i < 4) : fieldN (6 + i) = "name" := by
  match i, h with
  | 0, _ => rfl
  | 1, _ => rfl
  | 2, _ => rfl
  | 3, _ => rfl
theorem put_b (v : V) : putK [((Sum.inr (Str.ofString "a") : Key), V.int 1)] (Sum.inr (Str.ofString "b")) v = [(Sum.inr (Str.ofString "a"), V.int 1), (Sum.inr (Str.ofString "b"), v)] := rfl
theorem exv_off {H : Hp} {a C d b : Addr} {fs : List (Str × V)} {o o' : HO} (h : ExV H a C d fs) (hb : H b = some o) (n : ∀ φ, HO.ext φ ≠ o) : ExV (upd H b o') a C d fs := by
  obtain ⟨h1, h2⟩ := h
  refine ⟨(upd_ne fun e => ?_).trans h1, (upd_ne fun e => ?_).trans h2⟩
  · rw [e, hb] at h1
    exact n _ (Option.some.inj h1).symm
  · rw [e, hb] at h2
    exact n _ (Option.some.inj h2).symm
theorem dct_part : (List.range 4).all (fun n => partB (.dict [(.str (Str.ofString "a"), .int 1), (.str (Str.ofString "b"), .int (n : Int))]) && partB (.list [.int 1, .int (n : Int)])) = true := by decide +kernel
theorem yes {σ : L2.St} {H : Hp} {p q : Hp → Prop} (h : p H) : tYes σ H (fun b H3 => if b = true then p H3 else q H3) := h
theorem look1 (n : Str) (v : V) : List.lookup n [(n, v)] = some v := by simp [List.lookup]
theorem rep_snoc (n : Nat) (v : V) : List.replicate n v ++ [v] = List.replicate (n + 1) v := (List.replicate_succ' ..).symm
theorem no_false : ∀ n : Nat, inV (.bl false) (List.replicate n (.bl true)) = false
  | 0 => rfl
  | n + 1 => by
    have ih := no_false n
    unfold inV at ih ⊢
    rw [List.replicate_succ, List.any_cons, ih]
    rfl
theorem flat_rep : ∀ n : Nat, (List.replicate n (V.bl true)).all flatV = true
  | 0 => rfl
  | n + 1 => by
    rw [List.replicate_succ, List.all_cons, flat_rep n]
    rfl
section
variable {P : Program} {w : World} {K : PySem.W.Frag} {mg : Str → Option Value} {base : Heap} {f : Addr} {fd : FuncData} {Cs : Nat → Addr} {cL : Addr}
def spLaw (K : PySem.W.Frag) : Sp := fun vs H Q _ => ∃ (a : Addr) (ns : List Int), vs = [.ref a] ∧ SqL K H a (ns.map V.int) ∧ ns.length ≤ 63 ∧ (∀ z ∈ ns, Builtin.Int.intBits z ≤ 1048576) ∧ ∀ H', Q (.bl true) H'
structure LCalls (P : Program) (w : World) (K : PySem.W.Frag) (mg : Str → Option Value) (base : Heap) (Cs : Nat → Addr) : Prop where
  well : Df P w K mg base 1 "_law_well" ["_law_script", "_law_start"] (spWell K)
  any : Df P w K mg base 3 "_law_any" ["_law_well_here"] (spAny K)
  made : Df P w K mg base 3 "_law_made" ["_law_thing"] (spMade K Cs)
  named : Df P w K mg base 3 "_law_named" ["_law_thing"] (spMade K Cs)
  one : Df P w K mg base 2 "_law_of_one_kind" ["_law_error", "_law_at"] (spOne K Cs)
  named_ok : DfG P w K mg base 4 "_law_by_name" ["_law_well_here"] spBy
theorem ok_law (Fd : Fun K "law" "law" sLaw f fd) (T : Tx mg) (E : Errs K mg Cs cL) (D : LCalls P w K mg base Cs) : FnG P w K mg base 5 f fd ["_law_script"] (spLaw K) := by
  refine Fun.okG Fd scLaw (fun vs H Q E h => ?_) (fun cdv A0 outer s H vs Q Ex hG hr h => ?_)
  · obtain ⟨a, ns, rfl, _⟩ := h
    rfl
  · obtain ⟨a, ns, rfl, hS, hlen, hb, q⟩ := h
    have nd := scLaw.nd
    have hu := hu_of hr
    refine ⟨_, pss_cons (ps_for PassesOwn.never rfl (pi_range1 rfl T.range (pa_cons (pe_callB (call_max2 rfl) (by rfl) T.max (by decide +kernel) (pa_cons pe_int (pa_cons (pe_callB (call_min2 rfl) (by rfl) T.min (by decide +kernel) (pa_cons pe_int (pa_cons (pe_callB call_len_seq (by rfl) T.len PySem.boot_len (pa_cons (pv 0) pa_nil)) pa_nil))) pa_nil))) pa_nil)) (pg_name (i := 1) nd rfl (Or.inl rfl)) (pss_cons (ps_set (i := 2) nd rfl (Or.inl rfl) (pe_df D.well hr (pa_cons (pv 0) (pa_cons (pv 1) pa_nil))))
      (pss_one (ps_for PassesOwn.never rfl (pi_range1 rfl T.range (pa_cons pe_int pa_nil)) (pg_name (i := 3) nd rfl (Or.inl rfl)) (pss_cons (ps_par (i := 4) (j := 5) (by rfl) nd rfl rfl (by decide) rfl rfl (pa_cons (pe_df D.any hr (pa_cons (pv 2) pa_nil)) (pa_cons (pe_df D.any hr (pa_cons (pv 2) pa_nil)) pa_nil)) (by rfl))
      (pss_cons (ps_par (i := 6) (j := 7) (by rfl) nd rfl rfl (by decide) rfl rfl (pa_cons (pe_disp (pps_cons pe_str pe_int pps_nil) (by rfl) (by rfl) (fun z => by cases z) (by decide)) (pa_cons (pe_lstN (pa_cons pe_int pa_nil)) pa_nil)) (by rfl))
      (pss_cons (ps_par (i := 8) (j := 9) (by rfl) nd rfl rfl (by decide) rfl rfl (pa_cons (pe_df D.made hr (pa_cons (pv 4) pa_nil)) (pa_cons (pe_df D.named hr (pa_cons (pv 5) pa_nil)) pa_nil)) (by rfl))
      (pss_cons (ps_par (i := 10) (j := 11) (by rfl) nd rfl rfl (by decide) rfl rfl (pa_cons (pe_df D.made hr (pa_cons (pv 6) pa_nil)) (pa_cons (pe_df D.made hr (pa_cons (pv 7) pa_nil)) pa_nil)) (by rfl))
      (pss_cons (ps_dput hu (pv 6) pe_str (pv 3) rfl)
      (pss_cons (ps_expr (pe_bm PySem.F.plainAttrs_list PySem.F.slot_list_append PySem.F.type_list_append mt_append (pv 7) (pa_cons (pv 3) pa_nil)))
      (pss_cons (ps_set (i := 12) nd rfl (Or.inl rfl) (pe_lst (pa_cons (pe_tup (pa_cons (pv 8) (pa_cons (pv 4) pa_nil))) (pa_cons (pe_tup (pa_cons (pv 9) (pa_cons (pv 5) pa_nil))) (pa_cons (pe_tup (pa_cons (pv 8) (pa_cons (pv 4) pa_nil))) (pa_cons (pe_tup (pa_cons (pv 10) (pa_cons (pe_disp (pps_cons pe_str pe_int (pps_cons pe_str (pv 3) pps_nil)) (by rfl) (by rfl) (fun z => by cases z) (by decide)) pa_nil))) pa_nil))))))
      (pss_cons (ps_expr (pe_bm PySem.F.plainAttrs_list PySem.F.slot_list_append PySem.F.type_list_append mt_append (pv 12) (pa_cons (pe_tup (pa_cons (pv 11) (pa_cons (pe_lstN (pa_cons pe_int (pa_cons (pv 3) pa_nil))) pa_nil))) pa_nil)))
      (pss_cons (ps_for PassesOwn.never rfl (pi_list (pv 12)) (pg_tup (by rfl) (pgs_cons (pg_name (i := 13) nd rfl (Or.inl rfl)) (pgs_cons (pg_name (i := 14) nd rfl (Or.inl rfl)) pgs_nil))) (pss_cons (ps_setLc (i := 15) (own := [("_law_error", 16)]) (g := gName 16) (tt := tYes) (by rfl) nd rfl rfl (sw_true rfl rfl rfl (by decide +kernel)) (pi_list (pe_slice sl_list (pv 13) po_none (po_some pe_int))) (blkOk_by (own := [("_law_error", 16)]) (N := lawN) (sc := defScope sLaw) (by decide +kernel)) (fun _ _ _ _ _ => pg_name (i := 16) nd rfl (Or.inl rfl)) (fun _ _ _ _ _ => pts_nil) (fun _ _ _ _ _ => pe_xv (K := K) (n := "value") (pv 16)))
      (pss_cons (ps_set (i := 15) nd rfl (Or.inl rfl) (pe_op op_catN (pv 15) (pe_lc (own := [("_law_error", 16)]) (g := gName 16) (tt := tYes) (by rfl) nd (pi_list (pe_slice sl_list (pv 13) (po_some pe_int) (po_some pe_int))) (blkOk_by (own := [("_law_error", 16)]) (N := lawN) (sc := defScope sLaw) (by decide +kernel)) (fun _ _ _ _ _ => pg_name (i := 16) nd rfl (Or.inl rfl)) (fun _ _ _ _ _ => pts_nil) (fun _ _ _ _ _ => pe_xv (K := K) (n := "name") (pv 16)))))
      (pss_cons (ps_expr (pe_bm PySem.F.plainAttrs_list PySem.F.slot_list_append PySem.F.type_list_append mt_append (pv 15) (pa_cons (pe_xv (K := K) (n := "place") (pe_ix ix_list (pv 13) pe_int (fun _ _ => rfl))) pa_nil)))
      (pss_cons (ps_expr (pe_bm PySem.F.plainAttrs_list PySem.F.slot_list_append PySem.F.type_list_append mt_append (pv 15) (pa_cons (pe_xv (K := K) (n := "command") (pe_ix ix_list (pv 13) pe_int (fun _ _ => rfl))) pa_nil)))
      (pss_cons (ps_expr (pe_bm PySem.F.plainAttrs_list PySem.F.slot_list_append PySem.F.type_list_append mt_append (pv 15) (pa_cons (pe_xv (K := K) (n := "way") (pe_ix ix_list (pv 13) pe_int (fun _ _ => rfl))) pa_nil)))
      (pss_cons (ps_if (pt_cmpR op_ne (pe_callB (call_reprK (K := K) (P := P) (w := w) hG hr.units) (by rfl) T.repr (by decide +kernel) (pa_cons (pv 15) pa_nil)) (pe_callB (call_reprK (K := K) (P := P) (w := w) hG hr.units) (by rfl) T.repr (by decide +kernel) (pa_cons (pe_op op_repN (pe_lst (pa_cons (pv 14) pa_nil)) pe_int) pa_nil)) (nomark _)) (pss_one (ps_ret pe_bl)) pss_nil)
      (pss_one (ps_if (pt_cmpR op_in_seq pe_bl (pe_lc (own := [("_law_at", 17), ("_law_error", 16)]) (g := gTup K 2 (gCons (gName 17) (gCons (gName 16) gNil))) (tt := tYes) (by rfl) nd (pi_enum rfl T.enum (pa_cons (pv 13) pa_nil)) (blkOk_by (own := [("_law_at", 17), ("_law_error", 16)]) (N := lawN) (sc := defScope sLaw) (by decide +kernel)) (fun _ _ _ _ _ => pg_tup (by rfl) (pgs_cons (pg_name (i := 17) nd rfl (Or.inl rfl)) (pgs_cons (pg_name (i := 16) nd rfl (Or.inl rfl)) pgs_nil))) (fun _ _ _ _ _ => pts_nil) (fun _ _ _ _ _ => pe_df D.one hr (pa_cons (pv 16) (pa_cons (pv 17) pa_nil)))) (by rfl)) (pss_one (ps_ret pe_bl)) pss_nil)))))))))
      (pss_one (ps_if (pt_not (pt_val (pe_dfG D.named_ok hG hr (pa_cons (pv 2) pa_nil)))) (pss_one (ps_ret pe_bl)) pss_nil)))))))))))))))
      (pss_one (ps_ret pe_bl)), ?_⟩
    have rangeN : ∃ N : Nat, (if (if (((ns.map V.int).length : Nat) : Int) < 4 then (((ns.map V.int).length : Nat) : Int) else 4) > 1 then (if (((ns.map V.int).length : Nat) : Int) < 4 then (((ns.map V.int).length : Nat) : Int) else 4) else 1) = (N : Int) ∧ N ≤ 5 := by
      generalize (ns.map V.int).length = l
      by_cases h1 : (l : Int) < 4
      · rw [if_pos h1]
        by_cases h2 : (l : Int) > 1
        · exact ⟨l, if_pos h2, by omega⟩
        · exact ⟨1, if_neg h2, by decide⟩
      · rw [if_neg h1]
        exact ⟨4, rfl, by decide⟩
    obtain ⟨N, eN, hN⟩ := rangeN
    refine ⟨_, rfl, a, _, rfl, .inl hS, _, _, rfl, _, _, rfl, (N : Int), by rw [eN], by omega, by omega, for_range (lo := 0) (n := (N : Int).toNat) (fun i σ G => Same H G ∧ ∃ v1 v2 v3 v4 v5 v6 v7 v8 v9 v10 v11 v12 v13 v14 v15, σ = [some (.ref a), v1, v2, v3, v4, v5, v6, v7, v8, v9, v10, v11, v12, v13, v14, v15, none, none])
      ⟨Same.refl H, none, none, none, none, none, none, none, none, none, none, none, none, none, none, none, rfl⟩ ?_ ?_⟩
    · rintro j σ G hj ⟨sG, v1, v2, v3, v4, v5, v6, v7, v8, v9, v10, v11, v12, v13, v14, v15, rfl⟩
      refine ⟨_, rfl, _, rfl, a, ns, _, 1048576, rfl, sG.seq hS, hlen, by decide, by decide, hb, by omega, by omega, fun wa G1 nwa W1 s1 => ?_⟩
      have nH : H wa = none := sG.free nwa
      have up : ∀ {G2 G3 : Hp}, Same H G2 → Sb wa G2 G3 → Same H G3 := fun {G2 G3} x y b o e => y b o (ne_of_none e nH) (x b o e)
      refine ⟨4, rfl, by decide, by decide, for_range (lo := 0) (n := 4) (fun i σ G2 => Same H G2 ∧ Well G2 wa ∧ ∃ v1 v3 v4 v5 v6 v7 v8 v9 v10 v11 v12 v13 v14 v15, σ = [some (.ref a), v1, some (.ref wa), v3, v4, v5, v6, v7, v8, v9, v10, v11, v12, v13, v14, v15, none, none])
        ⟨sG.trans s1, W1, _, _, _, _, _, _, _, _, _, _, _, _, _, _, rfl⟩ ?_ ?_⟩
      · rintro i σ G2 hi ⟨sH, W2, v1, v3, v4, v5, v6, v7, v8, v9, v10, v11, v12, v13, v14, v15, rfl⟩
        -- two things
        refine ⟨_, rfl, wa, rfl, W2, fun x1 G3 a1 W3 s3 => ⟨_, rfl, wa, rfl, W3, fun x2 G4 a2 W4 s4 => ⟨_, _, rfl, ?_⟩⟩⟩
        have sH4 := up sH (s3.trans s4)
        obtain ⟨d1, hd1, pt1, _⟩ := a1.sb W3 s4
        obtain ⟨d2, hd2, pt2, _⟩ := a2
        -- a dict and a list of one's own
        intro ao nao
        refine ⟨upd_same, [(Sum.inr (Str.ofString "a"), .int 1)], rfl, (show 1 ≤ 15 by decide), ?_⟩
        rw [upd_upd]
        have y1 := Same.new (o := .dK (mergeK [] [((Sum.inr (Str.ofString "a") : Key), V.int 1)])) nao
        refine ⟨(show 1 ≤ sizeLine by decide), fun al nal sal => ⟨_, _, rfl, ?_⟩⟩
        have y2 := Same.new (o := .lst [.int 1]) nal
        have nal4 := y1.free nal
        have s5 := y1.trans y2
        have hao := y2 _ _ (upd_same (H := G4) (a := ao) (o := .dK (mergeK [] [((Sum.inr (Str.ofString "a") : Key), V.int 1)])))
        have hal := upd_same (H := upd G4 ao (.dK (mergeK [] [((Sum.inr (Str.ofString "a") : Key), V.int 1)]))) (a := al) (o := .lst [.int 1])
        generalize upd (upd G4 ao (.dK (mergeK [] [((Sum.inr (Str.ofString "a") : Key), V.int 1)]))) al (.lst [.int 1]) = G5 at *
        have hao : G5 ao = some (.dK [((Sum.inr (Str.ofString "a") : Key), V.int 1)]) := hao
        -- the errors
        refine ⟨_, rfl, x1, rfl, fun r1 es1 ds1 G6 s6 n1 L1 X1 => ⟨_, rfl, x2, rfl, fun r2 es2 ds2 G7 s7 n2 L2 X2 => ⟨_, _, rfl, ?_⟩⟩⟩
        refine ⟨_, rfl, .ref ao, rfl, fun r3 es3 ds3 G8 s8 n3 L3 X3 => ⟨_, rfl, .ref al, rfl, fun r4 es4 ds4 G9 s9 n4 L4 X4 => ⟨_, _, rfl, ?_⟩⟩⟩
        have hao9 := s9 _ _ (s8 _ _ (s7 _ _ (s6 _ _ hao)))
        have hal9 := s9 _ _ (s8 _ _ (s7 _ _ (s6 _ _ hal)))
        refine ⟨_, rfl, _, rfl, ao, _, rfl, DPut.k (k := Sum.inr (Str.ofString "b")) hao9 (show 1 < sizeLine by decide), ?_⟩
        rw [put_b, Int.zero_add]
        have neal : al ≠ ao := fun e => by
          rw [e, hao9] at hal9
          cases hal9
        have hal10 : (upd G9 ao (.dK [(Sum.inr (Str.ofString "a"), V.int 1), (Sum.inr (Str.ofString "b"), .int (i : Int))])) al = some (.lst [.int 1]) := (upd_ne neal).trans hal9
        refine ⟨_, rfl, .inl ⟨rfl, _, .of hal10⟩, _, rfl, al, _, _, rfl, rfl, hal10, (show 1 < sizeLine by decide), ?_⟩
        -- where all stands
        have w9 := s9
        have w8 := s8.trans s9
        have w7 := s7.trans w8
        have w6 := s6.trans w7
        have S : Same G4 (upd (upd G9 ao (.dK [(Sum.inr (Str.ofString "a"), V.int 1), (Sum.inr (Str.ofString "b"), .int (i : Int))])) al (.lst ([.int 1] ++ [.int (i : Int)]))) := fun b o e => by
          rw [upd_ne (ne_of_none e nal4), upd_ne (ne_of_none e nao)]
          exact w6 _ _ (s5 _ _ e)
        have list : ∀ {r : Addr} {xs : List V}, r ≠ ao → r ≠ al → G9 r = some (.lst xs) → (upd (upd G9 ao (.dK [(Sum.inr (Str.ofString "a"), V.int 1), (Sum.inr (Str.ofString "b"), .int (i : Int))])) al (.lst ([.int 1] ++ [.int (i : Int)]))) r = some (.lst xs) := fun {r xs} h1 h2 h3 => (upd_ne h2).trans ((upd_ne h1).trans h3)
        have exc : ∀ {e C d : Addr} {fs : List (Str × V)}, ExV G9 e C d fs → ExV (upd (upd G9 ao (.dK [(Sum.inr (Str.ofString "a"), V.int 1), (Sum.inr (Str.ofString "b"), .int (i : Int))])) al (.lst ([.int 1] ++ [.int (i : Int)]))) e C d fs := fun h => exv_off (exv_off h hao9 (fun _ z => by cases z)) hal10 (fun _ z => by cases z)
        have M1 := list (ne_of_none hao n1).symm (ne_of_none hal n1).symm (w7 _ _ L1)
        have M2 := list (ne_of_none (s6 _ _ hao) n2).symm (ne_of_none (s6 _ _ hal) n2).symm (w8 _ _ L2)
        have M3 := list (ne_of_none (s7 _ _ (s6 _ _ hao)) n3).symm (ne_of_none (s7 _ _ (s6 _ _ hal)) n3).symm (w9 _ _ L3)
        have M4 := list (ne_of_none (s8 _ _ (s7 _ _ (s6 _ _ hao))) n4).symm (ne_of_none (s8 _ _ (s7 _ _ (s6 _ _ hal))) n4).symm L4
        have Y1 : ∀ k < 13, ExV _ (es1 k) (Cs k) (ds1 k) [(fieldN k, x1)] := fun k hk => exc ((X1 k hk).same w7)
        have Y2 : ∀ k < 13, ExV _ (es2 k) (Cs k) (ds2 k) [(fieldN k, x2)] := fun k hk => exc ((X2 k hk).same w8)
        have Y3 : ∀ k < 13, ExV _ (es3 k) (Cs k) (ds3 k) [(fieldN k, .ref ao)] := fun k hk => exc ((X3 k hk).same w9)
        have Y4 : ∀ k < 13, ExV _ (es4 k) (Cs k) (ds4 k) [(fieldN k, .ref al)] := fun k hk => exc (X4 k hk)
        have haoA : (upd (upd G9 ao (.dK [(Sum.inr (Str.ofString "a"), V.int 1), (Sum.inr (Str.ofString "b"), .int (i : Int))])) al (.lst ([.int 1] ++ [.int (i : Int)]))) ao = some (.dK [(Sum.inr (Str.ofString "a"), V.int 1), (Sum.inr (Str.ofString "b"), .int (i : Int))]) := (upd_ne neal.symm).trans upd_same
        have halA : (upd (upd G9 ao (.dK [(Sum.inr (Str.ofString "a"), V.int 1), (Sum.inr (Str.ofString "b"), .int (i : Int))])) al (.lst ([.int 1] ++ [.int (i : Int)]))) al = some (.lst [.int 1, .int (i : Int)]) := upd_same
        have D1 := hd1.same S
        have D2 := hd2.same S
        have W10 := W4.same S
        have sH10 := sH4.trans S
        clear exc list S w6 w7 w8 w9 X1 X2 X3 X4 L1 L2 L3 L4 n1 n2 n3 n4 s6 s7 s8 s9 hao9 hal9 hal10 hao hal s5 nal4 nao
        generalize upd (upd G9 ao (.dK [(Sum.inr (Str.ofString "a"), V.int 1), (Sum.inr (Str.ofString "b"), .int (i : Int))])) al (.lst ([.int 1] ++ [.int (i : Int)])) = G10 at *
        obtain ⟨pd, pl⟩ : Part (.dict [(.str (Str.ofString "a"), .int 1), (.str (Str.ofString "b"), .int (i : Int))]) ∧ Part (.list [.int 1, .int (i : Int)]) := by
          have z := List.all_eq_true.mp dct_part i (List.mem_range.mpr hi)
          simp only [Bool.and_eq_true] at z
          exact ⟨part_of z.1, part_of z.2⟩
        have nW : noWell [((Sum.inr (Str.ofString "a") : Key), V.int 1), (Sum.inr (Str.ofString "b"), .int (i : Int))] := fun e => absurd (List.cons.inj e).1 (by decide +kernel)
        have dO : Dd K G10 (.ref ao) (.dict [(.str (Str.ofString "a"), .int 1), (.str (Str.ofString "b"), .int (i : Int))]) := .dct haoA nW (.cons (.int 1) (.cons (.int _) .nil))
        have dL : Dd K G10 (.ref al) (.list [.int 1, .int (i : Int)]) := .lst (.of halA) sal (.cons (.int 1) (.cons (.int _) .nil))
        -- the entries
        refine ⟨_, rfl, _, rfl, (show 2 ≤ sizeLine by decide), fun q1 nq1 => ?_⟩
        have z1 := Same.new (o := .tup [.ref r1, x1]) nq1
        refine ⟨_, rfl, _, rfl, (show 2 ≤ sizeLine by decide), fun q2 nq2 => ?_⟩
        have z2 := Same.new (o := .tup [.ref r2, x2]) nq2
        refine ⟨_, rfl, _, rfl, (show 2 ≤ sizeLine by decide), fun q3 nq3 => ?_⟩
        have z3 := Same.new (o := .tup [.ref r1, x1]) nq3
        refine ⟨_, rfl, fun dd ndd => ⟨_, rfl, upd_same, [(Sum.inr (Str.ofString "a"), .int 1), (Sum.inr (Str.ofString "b"), .int (i : Int))], ?_, (show 2 ≤ 15 by decide), ?_⟩⟩
        · rfl
        rw [upd_upd, show mergeK [] [((Sum.inr (Str.ofString "a") : Key), V.int 1), (Sum.inr (Str.ofString "b"), .int (i : Int))] = [((Sum.inr (Str.ofString "a") : Key), V.int 1), (Sum.inr (Str.ofString "b"), .int (i : Int))] from rfl]
        have z4 := Same.new (o := .dK [((Sum.inr (Str.ofString "a") : Key), V.int 1), (Sum.inr (Str.ofString "b"), .int (i : Int))]) ndd
        refine ⟨(show 2 ≤ sizeLine by decide), fun q4 nq4 => ?_⟩
        have z5 := Same.new (o := .tup [.ref r3, .ref dd]) nq4
        have e5 := z5 _ _ (upd_same (H := upd (upd (upd G10 q1 (.tup [.ref r1, x1])) q2 (.tup [.ref r2, x2])) q3 (.tup [.ref r1, x1])) (a := dd) (o := .dK [((Sum.inr (Str.ofString "a") : Key), V.int 1), (Sum.inr (Str.ofString "b"), .int (i : Int))]))
        have e1 := z5 _ _ (z4 _ _ (z3 _ _ (z2 _ _ (upd_same (H := G10) (a := q1) (o := .tup [.ref r1, x1])))))
        have e2 := z5 _ _ (z4 _ _ (z3 _ _ (upd_same (H := upd G10 q1 (.tup [.ref r1, x1])) (a := q2) (o := .tup [.ref r2, x2]))))
        have e3 := z5 _ _ (z4 _ _ (upd_same (H := upd (upd G10 q1 (.tup [.ref r1, x1])) q2 (.tup [.ref r2, x2])) (a := q3) (o := .tup [.ref r1, x1])))
        have e4 := upd_same (H := upd (upd (upd (upd G10 q1 (.tup [.ref r1, x1])) q2 (.tup [.ref r2, x2])) q3 (.tup [.ref r1, x1])) dd (.dK [((Sum.inr (Str.ofString "a") : Key), V.int 1), (Sum.inr (Str.ofString "b"), .int (i : Int))])) (a := q4) (o := .tup [.ref r3, .ref dd])
        have S1 := z1.trans (z2.trans (z3.trans (z4.trans z5)))
        clear z1 z2 z3 z4 z5 nq1 nq2 nq3 nq4 ndd
        generalize upd (upd (upd (upd (upd G10 q1 (.tup [.ref r1, x1])) q2 (.tup [.ref r2, x2])) q3 (.tup [.ref r1, x1])) dd (.dK [((Sum.inr (Str.ofString "a") : Key), V.int 1), (Sum.inr (Str.ofString "b"), .int (i : Int))])) q4 (.tup [.ref r3, .ref dd]) = G11 at *
        refine ⟨(show 4 ≤ sizeLine by decide), fun lp nlp => ?_⟩
        have z6 := Same.new (o := .lst [.ref q1, .ref q2, .ref q3, .ref q4]) nlp
        have hlp := upd_same (H := G11) (a := lp) (o := .lst [.ref q1, .ref q2, .ref q3, .ref q4])
        have nlp1 := S1.free nlp
        replace e1 := z6 _ _ e1
        replace e2 := z6 _ _ e2
        replace e3 := z6 _ _ e3
        replace e4 := z6 _ _ e4
        replace e5 := z6 _ _ e5
        have S2 := S1.trans z6
        generalize upd G11 lp (.lst [.ref q1, .ref q2, .ref q3, .ref q4]) = G12 at *
        refine ⟨_, rfl, .inl ⟨rfl, _, .of hlp⟩, _, rfl, _, rfl, (show 2 ≤ sizeLine by decide), fun l5 nl5 sl5 => ?_⟩
        have z7 := Same.new (o := .lst [.int 1, .int (i : Int)]) nl5
        have h5 := upd_same (H := G12) (a := l5) (o := .lst [.int 1, .int (i : Int)])
        have S3 := S2.trans z7
        have hlp0 := hlp
        replace hlp := z7 _ _ hlp
        replace e1 := z7 _ _ e1
        replace e2 := z7 _ _ e2
        replace e3 := z7 _ _ e3
        replace e4 := z7 _ _ e4
        replace e5 := z7 _ _ e5
        have nel5 : l5 ≠ lp := (ne_of_none hlp0 nl5).symm
        generalize upd G12 l5 (.lst [.int 1, .int (i : Int)]) = G13 at *
        refine ⟨(show 2 ≤ sizeLine by decide), fun q5 nq5 => ?_⟩
        have z8 := Same.new (o := .tup [.ref r4, .ref l5]) nq5
        have e5' := upd_same (H := G13) (a := q5) (o := .tup [.ref r4, .ref l5])
        have S4 := S3.trans z8
        replace hlp := z8 _ _ hlp
        replace h5 := z8 _ _ h5
        replace e1 := z8 _ _ e1
        replace e2 := z8 _ _ e2
        replace e3 := z8 _ _ e3
        replace e4 := z8 _ _ e4
        replace e5 := z8 _ _ e5
        generalize upd G13 q5 (.tup [.ref r4, .ref l5]) = G14 at *
        refine ⟨lp, _, _, rfl, rfl, hlp, (show 4 < sizeLine by decide), ?_⟩
        have nt : ∀ {q : Addr} {o : HO}, G14 q = some o → o ≠ .lst [.ref q1, .ref q2, .ref q3, .ref q4] → q ≠ lp := fun {q o} h n e => by
          rw [e, hlp] at h
          exact n (Option.some.inj h).symm
        have Sf : Same G10 (upd G14 lp (.lst ([.ref q1, .ref q2, .ref q3, .ref q4] ++ [.ref q5]))) := fun b o e => (upd_ne (ne_of_none e nlp1)).trans (S4 b o e)
        have f1 := (upd_ne (o := .lst ([.ref q1, .ref q2, .ref q3, .ref q4] ++ [.ref q5])) (nt e1 (fun z => by cases z))).trans e1
        have f2 := (upd_ne (o := .lst ([.ref q1, .ref q2, .ref q3, .ref q4] ++ [.ref q5])) (nt e2 (fun z => by cases z))).trans e2
        have f3 := (upd_ne (o := .lst ([.ref q1, .ref q2, .ref q3, .ref q4] ++ [.ref q5])) (nt e3 (fun z => by cases z))).trans e3
        have f4 := (upd_ne (o := .lst ([.ref q1, .ref q2, .ref q3, .ref q4] ++ [.ref q5])) (nt e4 (fun z => by cases z))).trans e4
        have f5 := (upd_ne (o := .lst ([.ref q1, .ref q2, .ref q3, .ref q4] ++ [.ref q5])) (nt e5 (fun z => by cases z))).trans e5
        have f6 := (upd_ne (o := .lst ([.ref q1, .ref q2, .ref q3, .ref q4] ++ [.ref q5])) (nt e5' (fun z => by cases z))).trans e5'
        have f7 := (upd_ne (o := .lst ([.ref q1, .ref q2, .ref q3, .ref q4] ++ [.ref q5])) nel5).trans h5
        have hL := upd_same (H := G14) (a := lp) (o := .lst ([.ref q1, .ref q2, .ref q3, .ref q4] ++ [.ref q5]))
        clear nt
        generalize upd G14 lp (.lst ([.ref q1, .ref q2, .ref q3, .ref q4] ++ [.ref q5])) = Gx at *
        have hL : Gx lp = some (.lst [.ref q1, .ref q2, .ref q3, .ref q4, .ref q5]) := hL
        have hall : ∀ x ∈ [V.ref q1, .ref q2, .ref q3, .ref q4, .ref q5], Ent K Cs Gx x := fun x hx => by
          simp only [List.mem_cons, List.not_mem_nil, or_false] at hx
          rcases hx with rfl | rfl | rfl | rfl | rfl
          · exact ⟨q1, r1, x1, es1, ds1, x1, d1, rfl, .of f1, Sf _ _ M1, fun k hk => (Y1 k hk).same Sf, D1.same Sf, D1.same Sf, pt1⟩
          · exact ⟨q2, r2, x2, es2, ds2, x2, d2, rfl, .of f2, Sf _ _ M2, fun k hk => (Y2 k hk).same Sf, D2.same Sf, D2.same Sf, pt2⟩
          · exact ⟨q3, r1, x1, es1, ds1, x1, d1, rfl, .of f3, Sf _ _ M1, fun k hk => (Y1 k hk).same Sf, D1.same Sf, D1.same Sf, pt1⟩
          · exact ⟨q4, r3, .ref dd, es3, ds3, .ref ao, _, rfl, .of f4, Sf _ _ M3, fun k hk => (Y3 k hk).same Sf, dO.same Sf, .dct f5 nW (.cons (.int 1) (.cons (.int _) .nil)), pd⟩
          · exact ⟨q5, r4, .ref l5, es4, ds4, .ref al, _, rfl, .of f6, Sf _ _ M4, fun k hk => (Y4 k hk).same Sf, dL.same Sf, .lst (.of f7) sl5 (.cons (.int 1) (.cons (.int _) .nil)), pl⟩
        have Wx := W10.same Sf
        have sHx := sH10.trans Sf
        clear f1 f2 f3 f4 f5 f6 f7 e1 e2 e3 e4 e5 e5' h5 hlp Sf S4 S3 S2 S1 Y1 Y2 Y3 Y4 M1 M2 M3 M4 D1 D2 dO dL
        -- each entry
        refine ⟨_, rfl, lp, rfl, ⟨_, .of hL⟩, for_list (K := K) (a := lp) (xs := [.ref q1, .ref q2, .ref q3, .ref q4, .ref q5]) (fun i σ G => Same Gx G ∧ ∃ v1 v3 v4 v5 v6 v7 v8 v9 v10 v11 v13 v14 v15, σ = [some (.ref a), v1, some (.ref wa), v3, v4, v5, v6, v7, v8, v9, v10, v11, some (.ref lp), v13, v14, v15, none, none])
          ⟨Same.refl _, _, _, _, _, _, _, _, _, _, _, _, _, _, rfl⟩ (fun i σ G _ h => h.1.seq (.of hL)) ?_ ?_⟩
        · rintro e y σ G hy ⟨sG2, v1, v3, v4, v5, v6, v7, v8, v9, v10, v11, v13, v14, v15, rfl⟩
          obtain ⟨p, r, u, es, ds, v0, d, rfl, hs, hr0, hE, hd0, hdu, pt⟩ := (hall y (List.mem_of_getElem? hy)).same sG2
          refine ⟨p, [.ref r, u], rfl, hs, rfl, _, _, rfl, ?_⟩
          refine ⟨_, _, rfl, ⟨rfl, ?_⟩⟩
          -- the first six
          refine ⟨_, rfl, _, rfl, r, _, rfl, .of hr0, fun p1 np1 => ?_⟩
          rw [cut06]
          have y1 := Same.new (o := .lst ((List.range 6).map fun i => V.ref (es i))) np1
          have hp1 := upd_same (H := G) (a := p1) (o := .lst ((List.range 6).map fun i => V.ref (es i)))
          generalize upd G p1 (.lst ((List.range 6).map fun i => V.ref (es i))) = Ga at y1 hp1 ⊢
          refine ⟨p1, rfl, ⟨_, .of hp1⟩, fun D1 nD1 => ?_⟩
          refine lc_list (K := K) (a := p1) (xs := (List.range 6).map fun i => V.ref (es i)) (fun k G' => Same Ga G' ∧ G' D1 = some (.lst (List.replicate k v0))) ⟨Ld.Same.new nD1, upd_same⟩ (fun k G' _ h => h.1.seq (.of hp1)) ?_ ?_
          · rintro k x G' hx ⟨t1, h1⟩
            obtain ⟨hk, rfl⟩ := get_range hx
            have ex := (hE k (by omega)).same (y1.trans t1)
            have no := E.no k (by omega)
            rw [fieldV hk] at ex no
            refine ⟨rfl, yes ⟨_, rfl, es k, Cs k, ds k, _, v0, rfl, ex, E.xf k (by omega), no, look1 _ _, _, h1, ?_, fun b o e => ?_, ?_⟩⟩
            · rw [List.length_replicate]
              exact Nat.lt_of_lt_of_le hk (by decide)
            · rw [upd_ne (ne_of_none e nD1)]
              exact t1 b o e
            · rw [upd_same, rep_snoc]
          · rintro Gb ⟨t1, h1⟩
            rw [List.length_map, List.length_range] at h1
            have t2 := y1.trans t1
            -- the four behind
            refine ⟨_, rfl, _, rfl, _, rfl, _, rfl, r, _, rfl, .of (t2 _ _ hr0), fun p2 np2 => ?_⟩
            rw [cut610]
            have y2 := Same.new (o := .lst ((List.range 4).map fun i => V.ref (es (6 + i)))) np2
            have hp2 := upd_same (H := Gb) (a := p2) (o := .lst ((List.range 4).map fun i => V.ref (es (6 + i))))
            generalize upd Gb p2 (.lst ((List.range 4).map fun i => V.ref (es (6 + i)))) = Gc at y2 hp2 ⊢
            refine ⟨p2, rfl, ⟨_, .of hp2⟩, fun D2 nD2 => ?_⟩
            refine lc_list (K := K) (a := p2) (xs := (List.range 4).map fun i => V.ref (es (6 + i))) (fun k G' => Same Gc G' ∧ G' D2 = some (.lst (List.replicate k v0))) ⟨Ld.Same.new nD2, upd_same⟩ (fun k G' _ h => h.1.seq (.of hp2)) ?_ ?_
            · rintro k x G' hx ⟨t3, h3⟩
              obtain ⟨hk, rfl⟩ := get_range hx
              have ex := (hE (6 + k) (by omega)).same (t2.trans (y2.trans t3))
              have no := E.no (6 + k) (by omega)
              rw [fieldNm hk] at ex no
              refine ⟨rfl, yes ⟨_, rfl, es (6 + k), Cs (6 + k), ds (6 + k), _, v0, rfl, ex, E.xf (6 + k) (by omega), no, look1 _ _, _, h3, ?_, fun b o e => ?_, ?_⟩⟩
              · rw [List.length_replicate]
                exact Nat.lt_of_lt_of_le hk (by decide)
              · rw [upd_ne (ne_of_none e nD2)]
                exact t3 b o e
              · rw [upd_same, rep_snoc]
            · rintro Gd ⟨t3, h3⟩
              rw [List.length_map, List.length_range] at h3
              have t4 := y2.trans t3
              have t5 := t2.trans t4
              refine ⟨D1, D2, _, _, rfl, rfl, t4 _ _ h1, h3, (show 10 ≤ sizeLine by decide), fun p3 np3 sp3 => ?_⟩
              have y3 := Same.new (o := .lst (List.replicate 6 v0 ++ List.replicate 4 v0)) np3
              have hp3 := upd_same (H := Gd) (a := p3) (o := .lst (List.replicate 6 v0 ++ List.replicate 4 v0))
              have np3G : G p3 = none := t5.free np3
              have t6 := t5.trans y3
              generalize upd Gd p3 (.lst (List.replicate 6 v0 ++ List.replicate 4 v0)) = Ge at y3 hp3 t6 ⊢
              have hp3 : Ge p3 = some (.lst (List.replicate 10 v0)) := hp3
              -- one by one
              refine ⟨_, rfl, .inl ⟨rfl, _, .of hp3⟩, _, rfl, r, _, 10, _, rfl, rfl, .of (t6 _ _ hr0), at_of (j := 10) rfl rfl, es 10, Cs 10, ds 10, _, v0, rfl, (hE 10 (by decide)).same t6, E.xf 10 (by decide), E.no 10 (by decide), look1 _ _, p3, _, _, rfl, rfl, hp3, (show 10 < sizeLine by decide), ?_⟩
              have t7 : Same G (upd Ge p3 (.lst (List.replicate 10 v0 ++ [v0]))) := fun b o e => (upd_ne (ne_of_none e np3G)).trans (t6 b o e)
              have hp3 := upd_same (H := Ge) (a := p3) (o := .lst (List.replicate 10 v0 ++ [v0]))
              generalize upd Ge p3 (.lst (List.replicate 10 v0 ++ [v0])) = Gf at t7 hp3 ⊢
              refine ⟨_, rfl, .inl ⟨rfl, _, .of hp3⟩, _, rfl, r, _, 11, _, rfl, rfl, .of (t7 _ _ hr0), at_of (j := 11) rfl rfl, es 11, Cs 11, ds 11, _, v0, rfl, (hE 11 (by decide)).same t7, E.xf 11 (by decide), E.no 11 (by decide), look1 _ _, p3, _, _, rfl, rfl, hp3, (show 11 < sizeLine by decide), ?_⟩
              have t8 : Same G (upd Gf p3 (.lst ((List.replicate 10 v0 ++ [v0]) ++ [v0]))) := fun b o e => (upd_ne (ne_of_none e np3G)).trans (t7 b o e)
              have hp3 := upd_same (H := Gf) (a := p3) (o := .lst ((List.replicate 10 v0 ++ [v0]) ++ [v0]))
              generalize upd Gf p3 (.lst ((List.replicate 10 v0 ++ [v0]) ++ [v0])) = Gg at t8 hp3 ⊢
              refine ⟨_, rfl, .inl ⟨rfl, _, .of hp3⟩, _, rfl, r, _, 12, _, rfl, rfl, .of (t8 _ _ hr0), at_of (j := 12) rfl rfl, es 12, Cs 12, ds 12, _, v0, rfl, (hE 12 (by decide)).same t8, E.xf 12 (by decide), E.no 12 (by decide), look1 _ _, p3, _, _, rfl, rfl, hp3, (show 12 < sizeLine by decide), ?_⟩
              have t9 : Same G (upd Gg p3 (.lst (((List.replicate 10 v0 ++ [v0]) ++ [v0]) ++ [v0]))) := fun b o e => (upd_ne (ne_of_none e np3G)).trans (t8 b o e)
              have hp3 := upd_same (H := Gg) (a := p3) (o := .lst (((List.replicate 10 v0 ++ [v0]) ++ [v0]) ++ [v0]))
              generalize upd Gg p3 (.lst (((List.replicate 10 v0 ++ [v0]) ++ [v0]) ++ [v0])) = Gh at t9 hp3 ⊢
              have hp3 : Gh p3 = some (.lst (List.replicate 13 v0)) := hp3
              -- their text
              refine ⟨_, rfl, .ref p3, .list (List.replicate 13 d), rfl, (Dd.lst (.of hp3) sp3 (ddAll_rep (hd0.same t9) 13)).rds, small_rep pt, ?_⟩
              refine ⟨_, rfl, (show 1 ≤ sizeLine by decide), fun p4 np4 => ?_⟩
              have y4 := Same.new (o := .lst [u]) np4
              have hp4 := upd_same (H := Gh) (a := p4) (o := .lst [u])
              generalize upd Gh p4 (.lst [u]) = Gi at y4 hp4 ⊢
              refine ⟨p4, 13, [u], rfl, rfl, hp4, by decide, by decide, (show 1 * 13 ≤ sizeLine by decide), fun p5 np5 sp5 => ?_⟩
              have y5 := Same.new (o := .lst (List.replicate (13 : Int).toNat [u]).flatten) np5
              have hp5 := upd_same (H := Gi) (a := p5) (o := .lst (List.replicate (13 : Int).toNat [u]).flatten)
              generalize upd Gi p5 (.lst (List.replicate (13 : Int).toNat [u]).flatten) = Gj at y5 hp5 ⊢
              have hp5 : Gj p5 = some (.lst (List.replicate 13 u)) := hp5
              have t10 := t9.trans (y4.trans y5)
              refine ⟨.ref p5, .list (List.replicate 13 d), rfl, (Dd.lst (.of hp5) sp5 (ddAll_rep (hdu.same t10) 13)).rds, small_rep pt, rfl, _, rfl, ?_⟩
              rw [neE' rfl]
              refine iteF ?_
              -- their kinds
              refine ⟨_, rfl, r, _, rfl, .of (t10 _ _ hr0), fun D3 nD3 => ?_⟩
              refine lc_enum (K := K) (a := r) (xs := (List.range 13).map fun i => V.ref (es i)) (fun k G' => Same Gj G' ∧ G' D3 = some (.lst (List.replicate k (.bl true)))) ⟨Ld.Same.new nD3, upd_same⟩ (fun k G' _ h => h.1.seq (.of (t10 _ _ hr0))) ?_ ?_
              · rintro k x T' G' hx ⟨t11, h11⟩ hT
                obtain ⟨hk, rfl⟩ := get_range hx
                have y6 := Same.new (o := .tup [.int (k : Nat), .ref (es k)]) hT
                refine ⟨T', _, rfl, .of upd_same, rfl, _, _, rfl, ?_⟩
                refine ⟨_, _, rfl, ⟨rfl, rfl, ?_⟩⟩
                refine yes ⟨_, rfl, _, rfl, es k, ds k, _, k, rfl, hk, (hE k hk).same (t10.trans (t11.trans y6)), fun G'' s'' => ?_⟩
                have h12 := s'' _ _ (y6 _ _ h11)
                refine ⟨_, h12, ?_, fun b o e => ?_, ?_⟩
                · rw [List.length_replicate]
                  exact Nat.lt_of_lt_of_le hk (by decide)
                · rw [upd_ne (ne_of_none e nD3)]
                  exact s'' _ _ (y6 _ _ (t11 b o e))
                · rw [upd_same, rep_snoc]
              · rintro Gk ⟨t11, h11⟩
                rw [List.length_map, List.length_range] at h11
                refine ⟨D3, _, rfl, .inl (.of h11), rfl, flat_rep 13, _, rfl, ?_⟩
                rw [if_neg Bool.false_ne_true, no_false]
                exact iteF ⟨sG2.trans (t10.trans t11), _, _, _, _, _, _, _, _, _, _, _, _, _, rfl⟩
        · rintro σ G ⟨sG2, v1, v3, v4, v5, v6, v7, v8, v9, v10, v11, v13, v14, v15, rfl⟩
          refine ⟨_, rfl, wa, rfl, Wx.same sG2, fun G' W' s' => ⟨_, rfl, iteF ⟨up (sHx.trans sG2) s', W', _, _, _, _, _, _, _, _, _, _, _, _, _, _, rfl⟩⟩⟩
      · rintro σ G2 ⟨sH, W2, v1, v3, v4, v5, v6, v7, v8, v9, v10, v11, v12, v13, v14, v15, rfl⟩
        exact ⟨sH, v1, some (.ref wa), v3, v4, v5, v6, v7, v8, v9, v10, v11, v12, v13, v14, v15, rfl⟩
    · rintro σ G ⟨sG, v1, v2, v3, v4, v5, v6, v7, v8, v9, v10, v11, v12, v13, v14, v15, rfl⟩
      exact q _
end
end K3
namespace K3
open PySem PySem.Spec PyProof.Rows L2 Ld
theorem kit_no {K : PySem.W.Frag} {C C' : Addr} (s1 : PySem.W.subIn K (.ref C) (.ref C) = some true) (s : PySem.W.subIn K (.ref C) (.ref C') = some false) (hc : PySem.W.isClsIn K C' = true) (ht : PySem.W.typeIn K (.ref C') = some (.type "type")) : PySem.W.kitOne K (.ref C) (.ref C') = some false := by
  unfold PySem.W.kitOne
  by_cases e : C = C'
  · subst e
    rw [s1] at s
    cases s
  · have e2 : ¬ ((Value.ref C == Value.ref C') = true) := fun z => e (Value.ref.inj (beq_iff_eq.mp z))
    rw [if_neg e2]
    show (if ((PySem.W.clsIn K C').isSome && PySem.W.typeIn K (.ref C') == some (.type "type")) = true then PySem.W.subIn K (.ref C) (.ref C') else none) = some false
    rw [show (PySem.W.clsIn K C').isSome = true from hc, ht, if_pos (by decide)]
    exact s
theorem kit_yes {K : PySem.W.Frag} {C C' : Addr} (s : PySem.W.subIn K (.ref C) (.ref C') = some true) (hc : PySem.W.isClsIn K C' = true) (ht : PySem.W.typeIn K (.ref C') = some (.type "type")) : PySem.W.kitOne K (.ref C) (.ref C') = some true := by
  unfold PySem.W.kitOne
  by_cases e2 : (Value.ref C == Value.ref C') = true
  · rw [if_pos e2]
  · rw [if_neg e2]
    show (if ((PySem.W.clsIn K C').isSome && PySem.W.typeIn K (.ref C') == some (.type "type")) = true then PySem.W.subIn K (.ref C) (.ref C') else none) = some true
    rw [show (PySem.W.clsIn K C').isSome = true from hc, ht, if_pos (by decide)]
    exact s
theorem kit_ve {K : PySem.W.Frag} {C : Addr} (s : PySem.W.subIn K (.ref C) (.type "ValueError") = some true) : PySem.W.kitOne K (.ref C) (.type "ValueError") = some true := by
  unfold PySem.W.kitOne
  have e2 : ¬ ((Value.ref C == Value.type "ValueError") = true) := fun z => by
    have := beq_iff_eq.mp z
    cases this
  rw [if_neg e2]
  show (if PySem.W.kitMeta "ValueError" = true then PySem.W.subIn K (.ref C) (.type "ValueError") else none) = some true
  rw [if_pos (by decide +kernel)]
  exact s
theorem back_rel {vs zs : List V} {us ws : List Value} (r1 : Vals vs us) (r2 : Vals zs ws) : Vals (gBack vs zs) ((fun (_ : List Value) (ws : List Value) => match ws with | [b, a] => [a, b] | _ => ws) us ws) := by
  cases r2 with
  | nil => exact .nil
  | cons p q =>
    cases q with
    | nil => exact .cons p .nil
    | cons p' q' =>
      cases q' with
      | nil => exact .cons p' (.cons p .nil)
      | cons a b => exact .cons p (.cons p' (.cons a b))
/-- what the written part says of one error class -/
structure Raw (K : PySem.W.Frag) (C cL fI : Addr) (n : Str) : Prop where
  cls : ∃ nm q N bs sn sub ab col dd k0 k1 k2 k3 k5, K.lookup C = some (excClassObj nm q C N bs [.ref cL, .type "ValueError", .type "Exception", .type "BaseException", .type "object"] true sn sub ab col dd k0 k1 k2 k3 k5 "ValueError.__new__")
  sa : PySem.W.findIn K (.ref C) "__setattr__" = some (some (.builtin "object.__setattr__"))
  ga : PySem.W.findIn K (.ref C) "__getattribute__" = some (some (.builtin "BaseException.__getattribute__"))
  gg : PySem.W.findIn K (.ref C) "__getattr__" = some none
  ha : PySem.W.findIn K (.ref C) "__class__" = some (some (.builtin "object.__class__"))
  no : PySem.W.findIn K (.ref C) n = some none
  iC : PySem.W.findIn K (.ref C) "__init__" = some (some (.ref fI))
  tI : PySem.W.typeIn K (.ref fI) = some (.type "function")
  kC : PySem.W.keepIn K (.ref C) = true
  eC : PySem.W.subIn K (.ref C) (.type "BaseException") = some true
  tC : PySem.W.typeIn K (.ref C) = some (.type "type")
  hC : PySem.W.hasDictIn K C = true
  hm : PySem.W.mroIn K C (.type "object") = some true
  cC : PySem.W.isClsIn K C = true
  sL : PySem.W.subIn K (.ref C) (.ref cL) = some true
  sV : PySem.W.subIn K (.ref C) (.type "ValueError") = some true
section
variable {K : PySem.W.Frag} {C cL fI : Addr} {n : Str}
theorem Raw.oex (R : Raw K C cL fI n) : OexC K C := by
  obtain ⟨nm, q, N, bs, sn, sub, ab, col, dd, k0, k1, k2, k3, k5, h⟩ := R.cls
  exact ⟨⟨nm, q, N, bs, _, sn, sub, ab, col, dd, k0, k1, k2, k3, k5, h, by rfl⟩, R.sa, R.eC, R.tC, R.kC⟩
theorem Raw.xf (R : Raw K C cL fI n) : XfC K C := ⟨R.ga, R.gg, R.eC, R.hC⟩
theorem Raw.ex (R : Raw K C cL fI n) (hn : PySem.W.specialIn K (.builtin "object.__class__") "__get__" = some (some (.builtin "getset_descriptor.__get__"))) (ht : PySem.W.takesIn K (.builtin "object.__class__") = some true) : ExcC K C := ⟨R.ga, R.gg, R.eC, R.hC, R.ha, hn, ht, R.hm⟩
theorem Raw.xmk (R : Raw K C cL fI n) : XMk K C fI := ⟨R.oex, R.iC, R.tI⟩
end
theorem all_mk {l : PySem.W.OpenLaw} {w : World} {K : PySem.W.Frag} {h : Heap} {mg : Str → Option Value} {fa : Addr} (X : K.In h) (G : h.Ns mainGlobals mg) (hfa : mg "law" = some (.ref fa))
    {f1 f2 f3 f4 f5 f6 f7 f8 f9 f10 f11 f12 f13 f14 f15 f16 f17 f18 f19 f20 C0 C1 C2 C3 C4 C5 C6 C7 C8 C9 C10 C11 C12 i0 i1 i2 i3 i4 i5 i6 i7 i8 i9 i10 i11 i12 cL : Addr}
    {od1 an1 od2 an2 od3 an3 od4 an4 od5 an5 od6 an6 od7 an7 od8 an8 od9 an9 od10 an10 od11 an11 od12 an12 od13 an13 od14 an14 od15 an15 od16 an16 od17 an17 od18 an18 od19 an19 od20 an20 odi0 ani0 odi1 ani1 odi2 ani2 odi3 ani3 odi4 ani4 odi5 ani5 odi6 ani6 odi7 ani7 odi8 ani8 odi9 ani9 odi10 ani10 odi11 ani11 odi12 ani12 : Option Addr}
    {sl1 sl2 sl3 sl4 sl5 sl6 sl7 sl8 sl9 sl10 sl11 sl12 sl13 sl14 sl15 sl16 sl17 sl18 sl19 sl20 sli0 sli1 sli2 sli3 sli4 sli5 sli6 sli7 sli8 sli9 sli10 sli11 sli12 : Array (Option Value)}
    {oc1 kV1 dc1 pm1 cd1 ct1 oc2 kV2 dc2 pm2 cd2 ct2 oc3 kV3 dc3 pm3 cd3 ct3 oc4 kV4 dc4 pm4 cd4 ct4 oc5 kV5 dc5 pm5 cd5 ct5 oc6 kV6 dc6 pm6 cd6 ct6 oc7 kV7 dc7 pm7 cd7 ct7 oc8 kV8 dc8 pm8 cd8 ct8 oc9 kV9 dc9 pm9 cd9 ct9 oc10 kV10 dc10 pm10 cd10 ct10 oc11 kV11 dc11 pm11 cd11 ct11 oc12 kV12 dc12 pm12 cd12 ct12 oc13 kV13 dc13 pm13 cd13 ct13 oc14 kV14 dc14 pm14 cd14 ct14 oc15 kV15 dc15 pm15 cd15 ct15 oc16 kV16 dc16 pm16 cd16 ct16 oc17 kV17 dc17 pm17 cd17 ct17 oc18 kV18 dc18 pm18 cd18 ct18 oc19 kV19 dc19 pm19 cd19 ct19 oc20 kV20 dc20 pm20 cd20 ct20 oci0 kVi0 dci0 pmi0 cdi0 cti0 oci1 kVi1 dci1 pmi1 cdi1 cti1 oci2 kVi2 dci2 pmi2 cdi2 cti2 oci3 kVi3 dci3 pmi3 cdi3 cti3 oci4 kVi4 dci4 pmi4 cdi4 cti4 oci5 kVi5 dci5 pmi5 cdi5 cti5 oci6 kVi6 dci6 pmi6 cdi6 cti6 oci7 kVi7 dci7 pmi7 cdi7 cti7 oci8 kVi8 dci8 pmi8 cdi8 cti8 oci9 kVi9 dci9 pmi9 cdi9 cti9 oci10 kVi10 dci10 pmi10 cdi10 cti10 oci11 kVi11 dci11 pmi11 cdi11 cti11 oci12 kVi12 dci12 pmi12 cdi12 cti12 : Value}
    {nm0 q0 nm1 q1 nm2 q2 nm3 q3 nm4 q4 nm5 q5 nm6 q6 nm7 q7 nm8 q8 nm9 q9 nm10 q10 nm11 q11 nm12 q12 : Str} {N0 N1 N2 N3 N4 N5 N6 N7 N8 N9 N10 N11 N12 : Addr} {bs0 sub0 bs1 sub1 bs2 sub2 bs3 sub3 bs4 sub4 bs5 sub5 bs6 sub6 bs7 sub7 bs8 sub8 bs9 sub9 bs10 sub10 bs11 sub11 bs12 sub12 : List Value} {sn0 sn1 sn2 sn3 sn4 sn5 sn6 sn7 sn8 sn9 sn10 sn11 sn12 : List Str} {ab0 ab1 ab2 ab3 ab4 ab5 ab6 ab7 ab8 ab9 ab10 ab11 ab12 : Bool} {col0 col1 col2 col3 col4 col5 col6 col7 col8 col9 col10 col11 col12 : Option Bool} {dd0 dd1 dd2 dd3 dd4 dd5 dd6 dd7 dd8 dd9 dd10 dd11 dd12 : Option Addr} {x00 x10 x20 x30 x50 x01 x11 x21 x31 x51 x02 x12 x22 x32 x52 x03 x13 x23 x33 x53 x04 x14 x24 x34 x54 x05 x15 x25 x35 x55 x06 x16 x26 x36 x56 x07 x17 x27 x37 x57 x08 x18 x28 x38 x58 x09 x19 x29 x39 x59 x010 x110 x210 x310 x510 x011 x111 x211 x311 x511 x012 x112 x212 x312 x512 : Option Value}
    (a1 : PySem.W.nsIn K mainGlobals "is_number_to" = some (some (.ref f1)))
    (l1 : K.lookup f1 = some ⟨oc1, od1, .func (PySem.W.fnOf "is_number_to" "is_number_to" (defArgs sNum) (defBody sNum) (defScope sNum) .none kV1 dc1 pm1 an1 cd1 ct1), sl1⟩)
    (c1 : PySem.W.codeIn K cd1 "is_number_to" = true)
    (k1 : PySem.W.keepIn K (.ref f1) = true)
    (a2 : PySem.W.nsIn K mainGlobals "is_day" = some (some (.ref f2)))
    (l2 : K.lookup f2 = some ⟨oc2, od2, .func (PySem.W.fnOf "is_day" "is_day" (defArgs sDay) (defBody sDay) (defScope sDay) .none kV2 dc2 pm2 an2 cd2 ct2), sl2⟩)
    (c2 : PySem.W.codeIn K cd2 "is_day" = true)
    (k2 : PySem.W.keepIn K (.ref f2) = true)
    (a3 : PySem.W.nsIn K mainGlobals "is_word" = some (some (.ref f3)))
    (l3 : K.lookup f3 = some ⟨oc3, od3, .func (PySem.W.fnOf "is_word" "is_word" (defArgs sWord) (defBody sWord) (defScope sWord) .none kV3 dc3 pm3 an3 cd3 ct3), sl3⟩)
    (c3 : PySem.W.codeIn K cd3 "is_word" = true)
    (k3 : PySem.W.keepIn K (.ref f3) = true)
    (a4 : PySem.W.nsIn K mainGlobals "is_address" = some (some (.ref f4)))
    (l4 : K.lookup f4 = some ⟨oc4, od4, .func (PySem.W.fnOf "is_address" "is_address" (defArgs sAddr) (defBody sAddr) (defScope sAddr) .none kV4 dc4 pm4 an4 cd4 ct4), sl4⟩)
    (c4 : PySem.W.codeIn K cd4 "is_address" = true)
    (k4 : PySem.W.keepIn K (.ref f4) = true)
    (a5 : PySem.W.nsIn K mainGlobals "begins" = some (some (.ref f5)))
    (l5 : K.lookup f5 = some ⟨oc5, od5, .func (PySem.W.fnOf "begins" "begins" (defArgs sBegins) (defBody sBegins) (defScope sBegins) .none kV5 dc5 pm5 an5 cd5 ct5), sl5⟩)
    (c5 : PySem.W.codeIn K cd5 "begins" = true)
    (k5 : PySem.W.keepIn K (.ref f5) = true)
    (a6 : PySem.W.nsIn K mainGlobals "rest_of" = some (some (.ref f6)))
    (l6 : K.lookup f6 = some ⟨oc6, od6, .func (PySem.W.fnOf "rest_of" "rest_of" (defArgs sRest) (defBody sRest) (defScope sRest) .none kV6 dc6 pm6 an6 cd6 ct6), sl6⟩)
    (c6 : PySem.W.codeIn K cd6 "rest_of" = true)
    (k6 : PySem.W.keepIn K (.ref f6) = true)
    (a7 : PySem.W.nsIn K mainGlobals "address_key" = some (some (.ref f7)))
    (l7 : K.lookup f7 = some ⟨oc7, od7, .func (PySem.W.fnOf "address_key" "address_key" (defArgs sKey) (defBody sKey) (defScope sKey) .none kV7 dc7 pm7 an7 cd7 ct7), sl7⟩)
    (c7 : PySem.W.codeIn K cd7 "address_key" = true)
    (k7 : PySem.W.keepIn K (.ref f7) = true)
    (a8 : PySem.W.nsIn K mainGlobals "beginnings" = some (some (.ref f8)))
    (l8 : K.lookup f8 = some ⟨oc8, od8, .func (PySem.W.fnOf "beginnings" "beginnings" (defArgs sBegs) (defBody sBegs) (defScope sBegs) .none kV8 dc8 pm8 an8 cd8 ct8), sl8⟩)
    (c8 : PySem.W.codeIn K cd8 "beginnings" = true)
    (k8 : PySem.W.keepIn K (.ref f8) = true)
    (a9 : PySem.W.nsIn K mainGlobals "_next_word" = some (some (.ref f9)))
    (l9 : K.lookup f9 = some ⟨oc9, od9, .func (PySem.W.fnOf "_next_word" "_next_word" (defArgs sNext) (defBody sNext) (defScope sNext) .none kV9 dc9 pm9 an9 cd9 ct9), sl9⟩)
    (c9 : PySem.W.codeIn K cd9 "_next_word" = true)
    (k9 : PySem.W.keepIn K (.ref f9) = true)
    (a10 : PySem.W.nsIn K mainGlobals "strange_word" = some (some (.ref f10)))
    (l10 : K.lookup f10 = some ⟨oc10, od10, .func (PySem.W.fnOf "strange_word" "strange_word" (defArgs sStrange) (defBody sStrange) (defScope sStrange) .none kV10 dc10 pm10 an10 cd10 ct10), sl10⟩)
    (c10 : PySem.W.codeIn K cd10 "strange_word" = true)
    (k10 : PySem.W.keepIn K (.ref f10) = true)
    (a11 : PySem.W.nsIn K mainGlobals "_law_well" = some (some (.ref f11)))
    (l11 : K.lookup f11 = some ⟨oc11, od11, .func (PySem.W.fnOf "_law_well" "_law_well" (defArgs sWell) (defBody sWell) (defScope sWell) .none kV11 dc11 pm11 an11 cd11 ct11), sl11⟩)
    (c11 : PySem.W.codeIn K cd11 "_law_well" = true)
    (k11 : PySem.W.keepIn K (.ref f11) = true)
    (a12 : PySem.W.nsIn K mainGlobals "_law_draw" = some (some (.ref f12)))
    (l12 : K.lookup f12 = some ⟨oc12, od12, .func (PySem.W.fnOf "_law_draw" "_law_draw" (defArgs sDraw) (defBody sDraw) (defScope sDraw) .none kV12 dc12 pm12 an12 cd12 ct12), sl12⟩)
    (c12 : PySem.W.codeIn K cd12 "_law_draw" = true)
    (k12 : PySem.W.keepIn K (.ref f12) = true)
    (a13 : PySem.W.nsIn K mainGlobals "_law_choose" = some (some (.ref f13)))
    (l13 : K.lookup f13 = some ⟨oc13, od13, .func (PySem.W.fnOf "_law_choose" "_law_choose" (defArgs sChoose) (defBody sChoose) (defScope sChoose) .none kV13 dc13 pm13 an13 cd13 ct13), sl13⟩)
    (c13 : PySem.W.codeIn K cd13 "_law_choose" = true)
    (k13 : PySem.W.keepIn K (.ref f13) = true)
    (a14 : PySem.W.nsIn K mainGlobals "_law_any" = some (some (.ref f14)))
    (l14 : K.lookup f14 = some ⟨oc14, od14, .func (PySem.W.fnOf "_law_any" "_law_any" (defArgs sAny) (defBody sAny) (defScope sAny) .none kV14 dc14 pm14 an14 cd14 ct14), sl14⟩)
    (c14 : PySem.W.codeIn K cd14 "_law_any" = true)
    (k14 : PySem.W.keepIn K (.ref f14) = true)
    (a15 : PySem.W.nsIn K mainGlobals "_law_kinds" = some (some (.ref f15)))
    (l15 : K.lookup f15 = some ⟨oc15, od15, .func (PySem.W.fnOf "_law_kinds" "_law_kinds" (defArgs sKinds) (defBody sKinds) (defScope sKinds) .none kV15 dc15 pm15 an15 cd15 ct15), sl15⟩)
    (c15 : PySem.W.codeIn K cd15 "_law_kinds" = true)
    (k15 : PySem.W.keepIn K (.ref f15) = true)
    (a16 : PySem.W.nsIn K mainGlobals "_law_of_one_kind" = some (some (.ref f16)))
    (l16 : K.lookup f16 = some ⟨oc16, od16, .func (PySem.W.fnOf "_law_of_one_kind" "_law_of_one_kind" (defArgs sOne) (defBody sOne) (defScope sOne) .none kV16 dc16 pm16 an16 cd16 ct16), sl16⟩)
    (c16 : PySem.W.codeIn K cd16 "_law_of_one_kind" = true)
    (k16 : PySem.W.keepIn K (.ref f16) = true)
    (a17 : PySem.W.nsIn K mainGlobals "_law_made" = some (some (.ref f17)))
    (l17 : K.lookup f17 = some ⟨oc17, od17, .func (PySem.W.fnOf "_law_made" "_law_made" (defArgs sMade) (defBody sMade) (defScope sMade) .none kV17 dc17 pm17 an17 cd17 ct17), sl17⟩)
    (c17 : PySem.W.codeIn K cd17 "_law_made" = true)
    (k17 : PySem.W.keepIn K (.ref f17) = true)
    (a18 : PySem.W.nsIn K mainGlobals "_law_named" = some (some (.ref f18)))
    (l18 : K.lookup f18 = some ⟨oc18, od18, .func (PySem.W.fnOf "_law_named" "_law_named" (defArgs sNamed) (defBody sNamed) (defScope sNamed) .none kV18 dc18 pm18 an18 cd18 ct18), sl18⟩)
    (c18 : PySem.W.codeIn K cd18 "_law_named" = true)
    (k18 : PySem.W.keepIn K (.ref f18) = true)
    (a19 : PySem.W.nsIn K mainGlobals "_law_by_name" = some (some (.ref f19)))
    (l19 : K.lookup f19 = some ⟨oc19, od19, .func (PySem.W.fnOf "_law_by_name" "_law_by_name" (defArgs sBy) (defBody sBy) (defScope sBy) .none kV19 dc19 pm19 an19 cd19 ct19), sl19⟩)
    (c19 : PySem.W.codeIn K cd19 "_law_by_name" = true)
    (k19 : PySem.W.keepIn K (.ref f19) = true)
    (a20 : PySem.W.nsIn K mainGlobals "law" = some (some (.ref f20)))
    (l20 : K.lookup f20 = some ⟨oc20, od20, .func (PySem.W.fnOf "law" "law" (defArgs sLaw) (defBody sLaw) (defScope sLaw) .none kV20 dc20 pm20 an20 cd20 ct20), sl20⟩)
    (c20 : PySem.W.codeIn K cd20 "law" = true)
    (k20 : PySem.W.keepIn K (.ref f20) = true)
    (z1 : PySem.W.nsIn K mainGlobals "isinstance" = some none)
    (z2 : PySem.W.nsIn K mainGlobals "int" = some none)
    (z3 : PySem.W.nsIn K mainGlobals "bool" = some none)
    (z4 : PySem.W.nsIn K mainGlobals "str" = some none)
    (z5 : PySem.W.nsIn K mainGlobals "tuple" = some none)
    (z6 : PySem.W.nsIn K mainGlobals "list" = some none)
    (z7 : PySem.W.nsIn K mainGlobals "len" = some none)
    (z8 : PySem.W.nsIn K mainGlobals "range" = some none)
    (z9 : PySem.W.nsIn K mainGlobals "repr" = some none)
    (z10 : PySem.W.nsIn K mainGlobals "max" = some none)
    (z11 : PySem.W.nsIn K mainGlobals "min" = some none)
    (z12 : PySem.W.nsIn K mainGlobals "set" = some none)
    (z13 : PySem.W.nsIn K mainGlobals "enumerate" = some none)
    (z14 : PySem.W.nsIn K mainGlobals "ValueError" = some none)
    {t1 : Tok}
    (g1 : PySem.W.nsIn K mainGlobals "LETTERS" = some (some (.str abcS t1)))
    {t2 : Tok}
    (g2 : PySem.W.nsIn K mainGlobals "WORD_LETTERS" = some (some (.int 12 t2)))
    {t3 : Tok}
    (g3 : PySem.W.nsIn K mainGlobals "LAST_DAY" = some (some (.int 1000000 t3)))
    (eL : PySem.W.nsIn K mainGlobals "LeadError" = some (some (.ref cL)))
    (eLc : PySem.W.isClsIn K cL = true)
    (eLt : PySem.W.typeIn K (.ref cL) = some (.type "type"))
    (kn : PySem.W.specialIn K (.builtin "object.__class__") "__get__" = some (some (.builtin "getset_descriptor.__get__")))
    (kt : PySem.W.takesIn K (.builtin "object.__class__") = some true)
    (e0 : PySem.W.nsIn K mainGlobals "BadRule" = some (some (.ref C0)))
    (e0x : K.lookup C0 = some (excClassObj nm0 q0 C0 N0 bs0 [.ref cL, .type "ValueError", .type "Exception", .type "BaseException", .type "object"] true sn0 sub0 ab0 col0 dd0 x00 x10 x20 x30 x50 "ValueError.__new__"))
    (e0sa : PySem.W.findIn K (.ref C0) "__setattr__" = some (some (.builtin "object.__setattr__")))
    (e0ga : PySem.W.findIn K (.ref C0) "__getattribute__" = some (some (.builtin "BaseException.__getattribute__")))
    (e0gg : PySem.W.findIn K (.ref C0) "__getattr__" = some none)
    (e0ha : PySem.W.findIn K (.ref C0) "__class__" = some (some (.builtin "object.__class__")))
    (e0no : PySem.W.findIn K (.ref C0) "value" = some none)
    (e0iC : PySem.W.findIn K (.ref C0) "__init__" = some (some (.ref i0)))
    (e0tI : PySem.W.typeIn K (.ref i0) = some (.type "function"))
    (e0kC : PySem.W.keepIn K (.ref C0) = true)
    (e0eC : PySem.W.subIn K (.ref C0) (.type "BaseException") = some true)
    (e0tC : PySem.W.typeIn K (.ref C0) = some (.type "type"))
    (e0hC : PySem.W.hasDictIn K C0 = true)
    (e0hm : PySem.W.mroIn K C0 (.type "object") = some true)
    (e0cC : PySem.W.isClsIn K C0 = true)
    (e0sL : PySem.W.subIn K (.ref C0) (.ref cL) = some true)
    (e0sV : PySem.W.subIn K (.ref C0) (.type "ValueError") = some true)
    (li0 : K.lookup i0 = some ⟨oci0, odi0, .func (PySem.W.fnOf "__init__" "BadRule.__init__" (defArgs sI0) (defBody sI0) (defScope sI0) .none kVi0 dci0 pmi0 ani0 cdi0 cti0), sli0⟩)
    (ci0 : PySem.W.codeIn K cdi0 "BadRule.__init__" = true)
    (ki0 : PySem.W.keepIn K (.ref i0) = true)
    (e1 : PySem.W.nsIn K mainGlobals "BadTable" = some (some (.ref C1)))
    (e1x : K.lookup C1 = some (excClassObj nm1 q1 C1 N1 bs1 [.ref cL, .type "ValueError", .type "Exception", .type "BaseException", .type "object"] true sn1 sub1 ab1 col1 dd1 x01 x11 x21 x31 x51 "ValueError.__new__"))
    (e1sa : PySem.W.findIn K (.ref C1) "__setattr__" = some (some (.builtin "object.__setattr__")))
    (e1ga : PySem.W.findIn K (.ref C1) "__getattribute__" = some (some (.builtin "BaseException.__getattribute__")))
    (e1gg : PySem.W.findIn K (.ref C1) "__getattr__" = some none)
    (e1ha : PySem.W.findIn K (.ref C1) "__class__" = some (some (.builtin "object.__class__")))
    (e1no : PySem.W.findIn K (.ref C1) "value" = some none)
    (e1iC : PySem.W.findIn K (.ref C1) "__init__" = some (some (.ref i1)))
    (e1tI : PySem.W.typeIn K (.ref i1) = some (.type "function"))
    (e1kC : PySem.W.keepIn K (.ref C1) = true)
    (e1eC : PySem.W.subIn K (.ref C1) (.type "BaseException") = some true)
    (e1tC : PySem.W.typeIn K (.ref C1) = some (.type "type"))
    (e1hC : PySem.W.hasDictIn K C1 = true)
    (e1hm : PySem.W.mroIn K C1 (.type "object") = some true)
    (e1cC : PySem.W.isClsIn K C1 = true)
    (e1sL : PySem.W.subIn K (.ref C1) (.ref cL) = some true)
    (e1sV : PySem.W.subIn K (.ref C1) (.type "ValueError") = some true)
    (li1 : K.lookup i1 = some ⟨oci1, odi1, .func (PySem.W.fnOf "__init__" "BadTable.__init__" (defArgs sI1) (defBody sI1) (defScope sI1) .none kVi1 dci1 pmi1 ani1 cdi1 cti1), sli1⟩)
    (ci1 : PySem.W.codeIn K cdi1 "BadTable.__init__" = true)
    (ki1 : PySem.W.keepIn K (.ref i1) = true)
    (e2 : PySem.W.nsIn K mainGlobals "BadDay" = some (some (.ref C2)))
    (e2x : K.lookup C2 = some (excClassObj nm2 q2 C2 N2 bs2 [.ref cL, .type "ValueError", .type "Exception", .type "BaseException", .type "object"] true sn2 sub2 ab2 col2 dd2 x02 x12 x22 x32 x52 "ValueError.__new__"))
    (e2sa : PySem.W.findIn K (.ref C2) "__setattr__" = some (some (.builtin "object.__setattr__")))
    (e2ga : PySem.W.findIn K (.ref C2) "__getattribute__" = some (some (.builtin "BaseException.__getattribute__")))
    (e2gg : PySem.W.findIn K (.ref C2) "__getattr__" = some none)
    (e2ha : PySem.W.findIn K (.ref C2) "__class__" = some (some (.builtin "object.__class__")))
    (e2no : PySem.W.findIn K (.ref C2) "value" = some none)
    (e2iC : PySem.W.findIn K (.ref C2) "__init__" = some (some (.ref i2)))
    (e2tI : PySem.W.typeIn K (.ref i2) = some (.type "function"))
    (e2kC : PySem.W.keepIn K (.ref C2) = true)
    (e2eC : PySem.W.subIn K (.ref C2) (.type "BaseException") = some true)
    (e2tC : PySem.W.typeIn K (.ref C2) = some (.type "type"))
    (e2hC : PySem.W.hasDictIn K C2 = true)
    (e2hm : PySem.W.mroIn K C2 (.type "object") = some true)
    (e2cC : PySem.W.isClsIn K C2 = true)
    (e2sL : PySem.W.subIn K (.ref C2) (.ref cL) = some true)
    (e2sV : PySem.W.subIn K (.ref C2) (.type "ValueError") = some true)
    (li2 : K.lookup i2 = some ⟨oci2, odi2, .func (PySem.W.fnOf "__init__" "BadDay.__init__" (defArgs sI2) (defBody sI2) (defScope sI2) .none kVi2 dci2 pmi2 ani2 cdi2 cti2), sli2⟩)
    (ci2 : PySem.W.codeIn K cdi2 "BadDay.__init__" = true)
    (ki2 : PySem.W.keepIn K (.ref i2) = true)
    (e3 : PySem.W.nsIn K mainGlobals "BadPlace" = some (some (.ref C3)))
    (e3x : K.lookup C3 = some (excClassObj nm3 q3 C3 N3 bs3 [.ref cL, .type "ValueError", .type "Exception", .type "BaseException", .type "object"] true sn3 sub3 ab3 col3 dd3 x03 x13 x23 x33 x53 "ValueError.__new__"))
    (e3sa : PySem.W.findIn K (.ref C3) "__setattr__" = some (some (.builtin "object.__setattr__")))
    (e3ga : PySem.W.findIn K (.ref C3) "__getattribute__" = some (some (.builtin "BaseException.__getattribute__")))
    (e3gg : PySem.W.findIn K (.ref C3) "__getattr__" = some none)
    (e3ha : PySem.W.findIn K (.ref C3) "__class__" = some (some (.builtin "object.__class__")))
    (e3no : PySem.W.findIn K (.ref C3) "value" = some none)
    (e3iC : PySem.W.findIn K (.ref C3) "__init__" = some (some (.ref i3)))
    (e3tI : PySem.W.typeIn K (.ref i3) = some (.type "function"))
    (e3kC : PySem.W.keepIn K (.ref C3) = true)
    (e3eC : PySem.W.subIn K (.ref C3) (.type "BaseException") = some true)
    (e3tC : PySem.W.typeIn K (.ref C3) = some (.type "type"))
    (e3hC : PySem.W.hasDictIn K C3 = true)
    (e3hm : PySem.W.mroIn K C3 (.type "object") = some true)
    (e3cC : PySem.W.isClsIn K C3 = true)
    (e3sL : PySem.W.subIn K (.ref C3) (.ref cL) = some true)
    (e3sV : PySem.W.subIn K (.ref C3) (.type "ValueError") = some true)
    (li3 : K.lookup i3 = some ⟨oci3, odi3, .func (PySem.W.fnOf "__init__" "BadPlace.__init__" (defArgs sI3) (defBody sI3) (defScope sI3) .none kVi3 dci3 pmi3 ani3 cdi3 cti3), sli3⟩)
    (ci3 : PySem.W.codeIn K cdi3 "BadPlace.__init__" = true)
    (ki3 : PySem.W.keepIn K (.ref i3) = true)
    (e4 : PySem.W.nsIn K mainGlobals "BadName" = some (some (.ref C4)))
    (e4x : K.lookup C4 = some (excClassObj nm4 q4 C4 N4 bs4 [.ref cL, .type "ValueError", .type "Exception", .type "BaseException", .type "object"] true sn4 sub4 ab4 col4 dd4 x04 x14 x24 x34 x54 "ValueError.__new__"))
    (e4sa : PySem.W.findIn K (.ref C4) "__setattr__" = some (some (.builtin "object.__setattr__")))
    (e4ga : PySem.W.findIn K (.ref C4) "__getattribute__" = some (some (.builtin "BaseException.__getattribute__")))
    (e4gg : PySem.W.findIn K (.ref C4) "__getattr__" = some none)
    (e4ha : PySem.W.findIn K (.ref C4) "__class__" = some (some (.builtin "object.__class__")))
    (e4no : PySem.W.findIn K (.ref C4) "value" = some none)
    (e4iC : PySem.W.findIn K (.ref C4) "__init__" = some (some (.ref i4)))
    (e4tI : PySem.W.typeIn K (.ref i4) = some (.type "function"))
    (e4kC : PySem.W.keepIn K (.ref C4) = true)
    (e4eC : PySem.W.subIn K (.ref C4) (.type "BaseException") = some true)
    (e4tC : PySem.W.typeIn K (.ref C4) = some (.type "type"))
    (e4hC : PySem.W.hasDictIn K C4 = true)
    (e4hm : PySem.W.mroIn K C4 (.type "object") = some true)
    (e4cC : PySem.W.isClsIn K C4 = true)
    (e4sL : PySem.W.subIn K (.ref C4) (.ref cL) = some true)
    (e4sV : PySem.W.subIn K (.ref C4) (.type "ValueError") = some true)
    (li4 : K.lookup i4 = some ⟨oci4, odi4, .func (PySem.W.fnOf "__init__" "BadName.__init__" (defArgs sI4) (defBody sI4) (defScope sI4) .none kVi4 dci4 pmi4 ani4 cdi4 cti4), sli4⟩)
    (ci4 : PySem.W.codeIn K cdi4 "BadName.__init__" = true)
    (ki4 : PySem.W.keepIn K (.ref i4) = true)
    (e5 : PySem.W.nsIn K mainGlobals "BadText" = some (some (.ref C5)))
    (e5x : K.lookup C5 = some (excClassObj nm5 q5 C5 N5 bs5 [.ref cL, .type "ValueError", .type "Exception", .type "BaseException", .type "object"] true sn5 sub5 ab5 col5 dd5 x05 x15 x25 x35 x55 "ValueError.__new__"))
    (e5sa : PySem.W.findIn K (.ref C5) "__setattr__" = some (some (.builtin "object.__setattr__")))
    (e5ga : PySem.W.findIn K (.ref C5) "__getattribute__" = some (some (.builtin "BaseException.__getattribute__")))
    (e5gg : PySem.W.findIn K (.ref C5) "__getattr__" = some none)
    (e5ha : PySem.W.findIn K (.ref C5) "__class__" = some (some (.builtin "object.__class__")))
    (e5no : PySem.W.findIn K (.ref C5) "value" = some none)
    (e5iC : PySem.W.findIn K (.ref C5) "__init__" = some (some (.ref i5)))
    (e5tI : PySem.W.typeIn K (.ref i5) = some (.type "function"))
    (e5kC : PySem.W.keepIn K (.ref C5) = true)
    (e5eC : PySem.W.subIn K (.ref C5) (.type "BaseException") = some true)
    (e5tC : PySem.W.typeIn K (.ref C5) = some (.type "type"))
    (e5hC : PySem.W.hasDictIn K C5 = true)
    (e5hm : PySem.W.mroIn K C5 (.type "object") = some true)
    (e5cC : PySem.W.isClsIn K C5 = true)
    (e5sL : PySem.W.subIn K (.ref C5) (.ref cL) = some true)
    (e5sV : PySem.W.subIn K (.ref C5) (.type "ValueError") = some true)
    (li5 : K.lookup i5 = some ⟨oci5, odi5, .func (PySem.W.fnOf "__init__" "BadText.__init__" (defArgs sI5) (defBody sI5) (defScope sI5) .none kVi5 dci5 pmi5 ani5 cdi5 cti5), sli5⟩)
    (ci5 : PySem.W.codeIn K cdi5 "BadText.__init__" = true)
    (ki5 : PySem.W.keepIn K (.ref i5) = true)
    (e6 : PySem.W.nsIn K mainGlobals "UnknownName" = some (some (.ref C6)))
    (e6x : K.lookup C6 = some (excClassObj nm6 q6 C6 N6 bs6 [.ref cL, .type "ValueError", .type "Exception", .type "BaseException", .type "object"] true sn6 sub6 ab6 col6 dd6 x06 x16 x26 x36 x56 "ValueError.__new__"))
    (e6sa : PySem.W.findIn K (.ref C6) "__setattr__" = some (some (.builtin "object.__setattr__")))
    (e6ga : PySem.W.findIn K (.ref C6) "__getattribute__" = some (some (.builtin "BaseException.__getattribute__")))
    (e6gg : PySem.W.findIn K (.ref C6) "__getattr__" = some none)
    (e6ha : PySem.W.findIn K (.ref C6) "__class__" = some (some (.builtin "object.__class__")))
    (e6no : PySem.W.findIn K (.ref C6) "name" = some none)
    (e6iC : PySem.W.findIn K (.ref C6) "__init__" = some (some (.ref i6)))
    (e6tI : PySem.W.typeIn K (.ref i6) = some (.type "function"))
    (e6kC : PySem.W.keepIn K (.ref C6) = true)
    (e6eC : PySem.W.subIn K (.ref C6) (.type "BaseException") = some true)
    (e6tC : PySem.W.typeIn K (.ref C6) = some (.type "type"))
    (e6hC : PySem.W.hasDictIn K C6 = true)
    (e6hm : PySem.W.mroIn K C6 (.type "object") = some true)
    (e6cC : PySem.W.isClsIn K C6 = true)
    (e6sL : PySem.W.subIn K (.ref C6) (.ref cL) = some true)
    (e6sV : PySem.W.subIn K (.ref C6) (.type "ValueError") = some true)
    (li6 : K.lookup i6 = some ⟨oci6, odi6, .func (PySem.W.fnOf "__init__" "UnknownName.__init__" (defArgs sI6) (defBody sI6) (defScope sI6) .none kVi6 dci6 pmi6 ani6 cdi6 cti6), sli6⟩)
    (ci6 : PySem.W.codeIn K cdi6 "UnknownName.__init__" = true)
    (ki6 : PySem.W.keepIn K (.ref i6) = true)
    (e7 : PySem.W.nsIn K mainGlobals "TakenName" = some (some (.ref C7)))
    (e7x : K.lookup C7 = some (excClassObj nm7 q7 C7 N7 bs7 [.ref cL, .type "ValueError", .type "Exception", .type "BaseException", .type "object"] true sn7 sub7 ab7 col7 dd7 x07 x17 x27 x37 x57 "ValueError.__new__"))
    (e7sa : PySem.W.findIn K (.ref C7) "__setattr__" = some (some (.builtin "object.__setattr__")))
    (e7ga : PySem.W.findIn K (.ref C7) "__getattribute__" = some (some (.builtin "BaseException.__getattribute__")))
    (e7gg : PySem.W.findIn K (.ref C7) "__getattr__" = some none)
    (e7ha : PySem.W.findIn K (.ref C7) "__class__" = some (some (.builtin "object.__class__")))
    (e7no : PySem.W.findIn K (.ref C7) "name" = some none)
    (e7iC : PySem.W.findIn K (.ref C7) "__init__" = some (some (.ref i7)))
    (e7tI : PySem.W.typeIn K (.ref i7) = some (.type "function"))
    (e7kC : PySem.W.keepIn K (.ref C7) = true)
    (e7eC : PySem.W.subIn K (.ref C7) (.type "BaseException") = some true)
    (e7tC : PySem.W.typeIn K (.ref C7) = some (.type "type"))
    (e7hC : PySem.W.hasDictIn K C7 = true)
    (e7hm : PySem.W.mroIn K C7 (.type "object") = some true)
    (e7cC : PySem.W.isClsIn K C7 = true)
    (e7sL : PySem.W.subIn K (.ref C7) (.ref cL) = some true)
    (e7sV : PySem.W.subIn K (.ref C7) (.type "ValueError") = some true)
    (li7 : K.lookup i7 = some ⟨oci7, odi7, .func (PySem.W.fnOf "__init__" "TakenName.__init__" (defArgs sI7) (defBody sI7) (defScope sI7) .none kVi7 dci7 pmi7 ani7 cdi7 cti7), sli7⟩)
    (ci7 : PySem.W.codeIn K cdi7 "TakenName.__init__" = true)
    (ki7 : PySem.W.keepIn K (.ref i7) = true)
    (e8 : PySem.W.nsIn K mainGlobals "NotStanding" = some (some (.ref C8)))
    (e8x : K.lookup C8 = some (excClassObj nm8 q8 C8 N8 bs8 [.ref cL, .type "ValueError", .type "Exception", .type "BaseException", .type "object"] true sn8 sub8 ab8 col8 dd8 x08 x18 x28 x38 x58 "ValueError.__new__"))
    (e8sa : PySem.W.findIn K (.ref C8) "__setattr__" = some (some (.builtin "object.__setattr__")))
    (e8ga : PySem.W.findIn K (.ref C8) "__getattribute__" = some (some (.builtin "BaseException.__getattribute__")))
    (e8gg : PySem.W.findIn K (.ref C8) "__getattr__" = some none)
    (e8ha : PySem.W.findIn K (.ref C8) "__class__" = some (some (.builtin "object.__class__")))
    (e8no : PySem.W.findIn K (.ref C8) "name" = some none)
    (e8iC : PySem.W.findIn K (.ref C8) "__init__" = some (some (.ref i8)))
    (e8tI : PySem.W.typeIn K (.ref i8) = some (.type "function"))
    (e8kC : PySem.W.keepIn K (.ref C8) = true)
    (e8eC : PySem.W.subIn K (.ref C8) (.type "BaseException") = some true)
    (e8tC : PySem.W.typeIn K (.ref C8) = some (.type "type"))
    (e8hC : PySem.W.hasDictIn K C8 = true)
    (e8hm : PySem.W.mroIn K C8 (.type "object") = some true)
    (e8cC : PySem.W.isClsIn K C8 = true)
    (e8sL : PySem.W.subIn K (.ref C8) (.ref cL) = some true)
    (e8sV : PySem.W.subIn K (.ref C8) (.type "ValueError") = some true)
    (li8 : K.lookup i8 = some ⟨oci8, odi8, .func (PySem.W.fnOf "__init__" "NotStanding.__init__" (defArgs sI8) (defBody sI8) (defScope sI8) .none kVi8 dci8 pmi8 ani8 cdi8 cti8), sli8⟩)
    (ci8 : PySem.W.codeIn K cdi8 "NotStanding.__init__" = true)
    (ki8 : PySem.W.keepIn K (.ref i8) = true)
    (e9 : PySem.W.nsIn K mainGlobals "Standing" = some (some (.ref C9)))
    (e9x : K.lookup C9 = some (excClassObj nm9 q9 C9 N9 bs9 [.ref cL, .type "ValueError", .type "Exception", .type "BaseException", .type "object"] true sn9 sub9 ab9 col9 dd9 x09 x19 x29 x39 x59 "ValueError.__new__"))
    (e9sa : PySem.W.findIn K (.ref C9) "__setattr__" = some (some (.builtin "object.__setattr__")))
    (e9ga : PySem.W.findIn K (.ref C9) "__getattribute__" = some (some (.builtin "BaseException.__getattribute__")))
    (e9gg : PySem.W.findIn K (.ref C9) "__getattr__" = some none)
    (e9ha : PySem.W.findIn K (.ref C9) "__class__" = some (some (.builtin "object.__class__")))
    (e9no : PySem.W.findIn K (.ref C9) "name" = some none)
    (e9iC : PySem.W.findIn K (.ref C9) "__init__" = some (some (.ref i9)))
    (e9tI : PySem.W.typeIn K (.ref i9) = some (.type "function"))
    (e9kC : PySem.W.keepIn K (.ref C9) = true)
    (e9eC : PySem.W.subIn K (.ref C9) (.type "BaseException") = some true)
    (e9tC : PySem.W.typeIn K (.ref C9) = some (.type "type"))
    (e9hC : PySem.W.hasDictIn K C9 = true)
    (e9hm : PySem.W.mroIn K C9 (.type "object") = some true)
    (e9cC : PySem.W.isClsIn K C9 = true)
    (e9sL : PySem.W.subIn K (.ref C9) (.ref cL) = some true)
    (e9sV : PySem.W.subIn K (.ref C9) (.type "ValueError") = some true)
    (li9 : K.lookup i9 = some ⟨oci9, odi9, .func (PySem.W.fnOf "__init__" "Standing.__init__" (defArgs sI9) (defBody sI9) (defScope sI9) .none kVi9 dci9 pmi9 ani9 cdi9 cti9), sli9⟩)
    (ci9 : PySem.W.codeIn K cdi9 "Standing.__init__" = true)
    (ki9 : PySem.W.keepIn K (.ref i9) = true)
    (e10 : PySem.W.nsIn K mainGlobals "TakenPlace" = some (some (.ref C10)))
    (e10x : K.lookup C10 = some (excClassObj nm10 q10 C10 N10 bs10 [.ref cL, .type "ValueError", .type "Exception", .type "BaseException", .type "object"] true sn10 sub10 ab10 col10 dd10 x010 x110 x210 x310 x510 "ValueError.__new__"))
    (e10sa : PySem.W.findIn K (.ref C10) "__setattr__" = some (some (.builtin "object.__setattr__")))
    (e10ga : PySem.W.findIn K (.ref C10) "__getattribute__" = some (some (.builtin "BaseException.__getattribute__")))
    (e10gg : PySem.W.findIn K (.ref C10) "__getattr__" = some none)
    (e10ha : PySem.W.findIn K (.ref C10) "__class__" = some (some (.builtin "object.__class__")))
    (e10no : PySem.W.findIn K (.ref C10) "place" = some none)
    (e10iC : PySem.W.findIn K (.ref C10) "__init__" = some (some (.ref i10)))
    (e10tI : PySem.W.typeIn K (.ref i10) = some (.type "function"))
    (e10kC : PySem.W.keepIn K (.ref C10) = true)
    (e10eC : PySem.W.subIn K (.ref C10) (.type "BaseException") = some true)
    (e10tC : PySem.W.typeIn K (.ref C10) = some (.type "type"))
    (e10hC : PySem.W.hasDictIn K C10 = true)
    (e10hm : PySem.W.mroIn K C10 (.type "object") = some true)
    (e10cC : PySem.W.isClsIn K C10 = true)
    (e10sL : PySem.W.subIn K (.ref C10) (.ref cL) = some true)
    (e10sV : PySem.W.subIn K (.ref C10) (.type "ValueError") = some true)
    (li10 : K.lookup i10 = some ⟨oci10, odi10, .func (PySem.W.fnOf "__init__" "TakenPlace.__init__" (defArgs sI10) (defBody sI10) (defScope sI10) .none kVi10 dci10 pmi10 ani10 cdi10 cti10), sli10⟩)
    (ci10 : PySem.W.codeIn K cdi10 "TakenPlace.__init__" = true)
    (ki10 : PySem.W.keepIn K (.ref i10) = true)
    (e11 : PySem.W.nsIn K mainGlobals "BadCommand" = some (some (.ref C11)))
    (e11x : K.lookup C11 = some (excClassObj nm11 q11 C11 N11 bs11 [.ref cL, .type "ValueError", .type "Exception", .type "BaseException", .type "object"] true sn11 sub11 ab11 col11 dd11 x011 x111 x211 x311 x511 "ValueError.__new__"))
    (e11sa : PySem.W.findIn K (.ref C11) "__setattr__" = some (some (.builtin "object.__setattr__")))
    (e11ga : PySem.W.findIn K (.ref C11) "__getattribute__" = some (some (.builtin "BaseException.__getattribute__")))
    (e11gg : PySem.W.findIn K (.ref C11) "__getattr__" = some none)
    (e11ha : PySem.W.findIn K (.ref C11) "__class__" = some (some (.builtin "object.__class__")))
    (e11no : PySem.W.findIn K (.ref C11) "command" = some none)
    (e11iC : PySem.W.findIn K (.ref C11) "__init__" = some (some (.ref i11)))
    (e11tI : PySem.W.typeIn K (.ref i11) = some (.type "function"))
    (e11kC : PySem.W.keepIn K (.ref C11) = true)
    (e11eC : PySem.W.subIn K (.ref C11) (.type "BaseException") = some true)
    (e11tC : PySem.W.typeIn K (.ref C11) = some (.type "type"))
    (e11hC : PySem.W.hasDictIn K C11 = true)
    (e11hm : PySem.W.mroIn K C11 (.type "object") = some true)
    (e11cC : PySem.W.isClsIn K C11 = true)
    (e11sL : PySem.W.subIn K (.ref C11) (.ref cL) = some true)
    (e11sV : PySem.W.subIn K (.ref C11) (.type "ValueError") = some true)
    (li11 : K.lookup i11 = some ⟨oci11, odi11, .func (PySem.W.fnOf "__init__" "BadCommand.__init__" (defArgs sI11) (defBody sI11) (defScope sI11) .none kVi11 dci11 pmi11 ani11 cdi11 cti11), sli11⟩)
    (ci11 : PySem.W.codeIn K cdi11 "BadCommand.__init__" = true)
    (ki11 : PySem.W.keepIn K (.ref i11) = true)
    (e12 : PySem.W.nsIn K mainGlobals "NotSafe" = some (some (.ref C12)))
    (e12x : K.lookup C12 = some (excClassObj nm12 q12 C12 N12 bs12 [.ref cL, .type "ValueError", .type "Exception", .type "BaseException", .type "object"] true sn12 sub12 ab12 col12 dd12 x012 x112 x212 x312 x512 "ValueError.__new__"))
    (e12sa : PySem.W.findIn K (.ref C12) "__setattr__" = some (some (.builtin "object.__setattr__")))
    (e12ga : PySem.W.findIn K (.ref C12) "__getattribute__" = some (some (.builtin "BaseException.__getattribute__")))
    (e12gg : PySem.W.findIn K (.ref C12) "__getattr__" = some none)
    (e12ha : PySem.W.findIn K (.ref C12) "__class__" = some (some (.builtin "object.__class__")))
    (e12no : PySem.W.findIn K (.ref C12) "way" = some none)
    (e12iC : PySem.W.findIn K (.ref C12) "__init__" = some (some (.ref i12)))
    (e12tI : PySem.W.typeIn K (.ref i12) = some (.type "function"))
    (e12kC : PySem.W.keepIn K (.ref C12) = true)
    (e12eC : PySem.W.subIn K (.ref C12) (.type "BaseException") = some true)
    (e12tC : PySem.W.typeIn K (.ref C12) = some (.type "type"))
    (e12hC : PySem.W.hasDictIn K C12 = true)
    (e12hm : PySem.W.mroIn K C12 (.type "object") = some true)
    (e12cC : PySem.W.isClsIn K C12 = true)
    (e12sL : PySem.W.subIn K (.ref C12) (.ref cL) = some true)
    (e12sV : PySem.W.subIn K (.ref C12) (.type "ValueError") = some true)
    (li12 : K.lookup i12 = some ⟨oci12, odi12, .func (PySem.W.fnOf "__init__" "NotSafe.__init__" (defArgs sI12) (defBody sI12) (defScope sI12) .none kVi12 dci12 pmi12 ani12 cdi12 cti12), sli12⟩)
    (ci12 : PySem.W.codeIn K cdi12 "NotSafe.__init__" = true)
    (ki12 : PySem.W.keepIn K (.ref i12) = true)
    (s0_0 : PySem.W.subIn K (.ref C0) (.ref C0) = some true)
    (s0_1 : PySem.W.subIn K (.ref C0) (.ref C1) = some false)
    (s0_2 : PySem.W.subIn K (.ref C0) (.ref C2) = some false)
    (s0_3 : PySem.W.subIn K (.ref C0) (.ref C3) = some false)
    (s0_4 : PySem.W.subIn K (.ref C0) (.ref C4) = some false)
    (s0_5 : PySem.W.subIn K (.ref C0) (.ref C5) = some false)
    (s0_6 : PySem.W.subIn K (.ref C0) (.ref C6) = some false)
    (s0_7 : PySem.W.subIn K (.ref C0) (.ref C7) = some false)
    (s0_8 : PySem.W.subIn K (.ref C0) (.ref C8) = some false)
    (s0_9 : PySem.W.subIn K (.ref C0) (.ref C9) = some false)
    (s0_10 : PySem.W.subIn K (.ref C0) (.ref C10) = some false)
    (s0_11 : PySem.W.subIn K (.ref C0) (.ref C11) = some false)
    (s0_12 : PySem.W.subIn K (.ref C0) (.ref C12) = some false)
    (s1_0 : PySem.W.subIn K (.ref C1) (.ref C0) = some false)
    (s1_1 : PySem.W.subIn K (.ref C1) (.ref C1) = some true)
    (s1_2 : PySem.W.subIn K (.ref C1) (.ref C2) = some false)
    (s1_3 : PySem.W.subIn K (.ref C1) (.ref C3) = some false)
    (s1_4 : PySem.W.subIn K (.ref C1) (.ref C4) = some false)
    (s1_5 : PySem.W.subIn K (.ref C1) (.ref C5) = some false)
    (s1_6 : PySem.W.subIn K (.ref C1) (.ref C6) = some false)
    (s1_7 : PySem.W.subIn K (.ref C1) (.ref C7) = some false)
    (s1_8 : PySem.W.subIn K (.ref C1) (.ref C8) = some false)
    (s1_9 : PySem.W.subIn K (.ref C1) (.ref C9) = some false)
    (s1_10 : PySem.W.subIn K (.ref C1) (.ref C10) = some false)
    (s1_11 : PySem.W.subIn K (.ref C1) (.ref C11) = some false)
    (s1_12 : PySem.W.subIn K (.ref C1) (.ref C12) = some false)
    (s2_0 : PySem.W.subIn K (.ref C2) (.ref C0) = some false)
    (s2_1 : PySem.W.subIn K (.ref C2) (.ref C1) = some false)
    (s2_2 : PySem.W.subIn K (.ref C2) (.ref C2) = some true)
    (s2_3 : PySem.W.subIn K (.ref C2) (.ref C3) = some false)
    (s2_4 : PySem.W.subIn K (.ref C2) (.ref C4) = some false)
    (s2_5 : PySem.W.subIn K (.ref C2) (.ref C5) = some false)
    (s2_6 : PySem.W.subIn K (.ref C2) (.ref C6) = some false)
    (s2_7 : PySem.W.subIn K (.ref C2) (.ref C7) = some false)
    (s2_8 : PySem.W.subIn K (.ref C2) (.ref C8) = some false)
    (s2_9 : PySem.W.subIn K (.ref C2) (.ref C9) = some false)
    (s2_10 : PySem.W.subIn K (.ref C2) (.ref C10) = some false)
    (s2_11 : PySem.W.subIn K (.ref C2) (.ref C11) = some false)
    (s2_12 : PySem.W.subIn K (.ref C2) (.ref C12) = some false)
    (s3_0 : PySem.W.subIn K (.ref C3) (.ref C0) = some false)
    (s3_1 : PySem.W.subIn K (.ref C3) (.ref C1) = some false)
    (s3_2 : PySem.W.subIn K (.ref C3) (.ref C2) = some false)
    (s3_3 : PySem.W.subIn K (.ref C3) (.ref C3) = some true)
    (s3_4 : PySem.W.subIn K (.ref C3) (.ref C4) = some false)
    (s3_5 : PySem.W.subIn K (.ref C3) (.ref C5) = some false)
    (s3_6 : PySem.W.subIn K (.ref C3) (.ref C6) = some false)
    (s3_7 : PySem.W.subIn K (.ref C3) (.ref C7) = some false)
    (s3_8 : PySem.W.subIn K (.ref C3) (.ref C8) = some false)
    (s3_9 : PySem.W.subIn K (.ref C3) (.ref C9) = some false)
    (s3_10 : PySem.W.subIn K (.ref C3) (.ref C10) = some false)
    (s3_11 : PySem.W.subIn K (.ref C3) (.ref C11) = some false)
    (s3_12 : PySem.W.subIn K (.ref C3) (.ref C12) = some false)
    (s4_0 : PySem.W.subIn K (.ref C4) (.ref C0) = some false)
    (s4_1 : PySem.W.subIn K (.ref C4) (.ref C1) = some false)
    (s4_2 : PySem.W.subIn K (.ref C4) (.ref C2) = some false)
    (s4_3 : PySem.W.subIn K (.ref C4) (.ref C3) = some false)
    (s4_4 : PySem.W.subIn K (.ref C4) (.ref C4) = some true)
    (s4_5 : PySem.W.subIn K (.ref C4) (.ref C5) = some false)
    (s4_6 : PySem.W.subIn K (.ref C4) (.ref C6) = some false)
    (s4_7 : PySem.W.subIn K (.ref C4) (.ref C7) = some false)
    (s4_8 : PySem.W.subIn K (.ref C4) (.ref C8) = some false)
    (s4_9 : PySem.W.subIn K (.ref C4) (.ref C9) = some false)
    (s4_10 : PySem.W.subIn K (.ref C4) (.ref C10) = some false)
    (s4_11 : PySem.W.subIn K (.ref C4) (.ref C11) = some false)
    (s4_12 : PySem.W.subIn K (.ref C4) (.ref C12) = some false)
    (s5_0 : PySem.W.subIn K (.ref C5) (.ref C0) = some false)
    (s5_1 : PySem.W.subIn K (.ref C5) (.ref C1) = some false)
    (s5_2 : PySem.W.subIn K (.ref C5) (.ref C2) = some false)
    (s5_3 : PySem.W.subIn K (.ref C5) (.ref C3) = some false)
    (s5_4 : PySem.W.subIn K (.ref C5) (.ref C4) = some false)
    (s5_5 : PySem.W.subIn K (.ref C5) (.ref C5) = some true)
    (s5_6 : PySem.W.subIn K (.ref C5) (.ref C6) = some false)
    (s5_7 : PySem.W.subIn K (.ref C5) (.ref C7) = some false)
    (s5_8 : PySem.W.subIn K (.ref C5) (.ref C8) = some false)
    (s5_9 : PySem.W.subIn K (.ref C5) (.ref C9) = some false)
    (s5_10 : PySem.W.subIn K (.ref C5) (.ref C10) = some false)
    (s5_11 : PySem.W.subIn K (.ref C5) (.ref C11) = some false)
    (s5_12 : PySem.W.subIn K (.ref C5) (.ref C12) = some false)
    (s6_0 : PySem.W.subIn K (.ref C6) (.ref C0) = some false)
    (s6_1 : PySem.W.subIn K (.ref C6) (.ref C1) = some false)
    (s6_2 : PySem.W.subIn K (.ref C6) (.ref C2) = some false)
    (s6_3 : PySem.W.subIn K (.ref C6) (.ref C3) = some false)
    (s6_4 : PySem.W.subIn K (.ref C6) (.ref C4) = some false)
    (s6_5 : PySem.W.subIn K (.ref C6) (.ref C5) = some false)
    (s6_6 : PySem.W.subIn K (.ref C6) (.ref C6) = some true)
    (s6_7 : PySem.W.subIn K (.ref C6) (.ref C7) = some false)
    (s6_8 : PySem.W.subIn K (.ref C6) (.ref C8) = some false)
    (s6_9 : PySem.W.subIn K (.ref C6) (.ref C9) = some false)
    (s6_10 : PySem.W.subIn K (.ref C6) (.ref C10) = some false)
    (s6_11 : PySem.W.subIn K (.ref C6) (.ref C11) = some false)
    (s6_12 : PySem.W.subIn K (.ref C6) (.ref C12) = some false)
    (s7_0 : PySem.W.subIn K (.ref C7) (.ref C0) = some false)
    (s7_1 : PySem.W.subIn K (.ref C7) (.ref C1) = some false)
    (s7_2 : PySem.W.subIn K (.ref C7) (.ref C2) = some false)
    (s7_3 : PySem.W.subIn K (.ref C7) (.ref C3) = some false)
    (s7_4 : PySem.W.subIn K (.ref C7) (.ref C4) = some false)
    (s7_5 : PySem.W.subIn K (.ref C7) (.ref C5) = some false)
    (s7_6 : PySem.W.subIn K (.ref C7) (.ref C6) = some false)
    (s7_7 : PySem.W.subIn K (.ref C7) (.ref C7) = some true)
    (s7_8 : PySem.W.subIn K (.ref C7) (.ref C8) = some false)
    (s7_9 : PySem.W.subIn K (.ref C7) (.ref C9) = some false)
    (s7_10 : PySem.W.subIn K (.ref C7) (.ref C10) = some false)
    (s7_11 : PySem.W.subIn K (.ref C7) (.ref C11) = some false)
    (s7_12 : PySem.W.subIn K (.ref C7) (.ref C12) = some false)
    (s8_0 : PySem.W.subIn K (.ref C8) (.ref C0) = some false)
    (s8_1 : PySem.W.subIn K (.ref C8) (.ref C1) = some false)
    (s8_2 : PySem.W.subIn K (.ref C8) (.ref C2) = some false)
    (s8_3 : PySem.W.subIn K (.ref C8) (.ref C3) = some false)
    (s8_4 : PySem.W.subIn K (.ref C8) (.ref C4) = some false)
    (s8_5 : PySem.W.subIn K (.ref C8) (.ref C5) = some false)
    (s8_6 : PySem.W.subIn K (.ref C8) (.ref C6) = some false)
    (s8_7 : PySem.W.subIn K (.ref C8) (.ref C7) = some false)
    (s8_8 : PySem.W.subIn K (.ref C8) (.ref C8) = some true)
    (s8_9 : PySem.W.subIn K (.ref C8) (.ref C9) = some false)
    (s8_10 : PySem.W.subIn K (.ref C8) (.ref C10) = some false)
    (s8_11 : PySem.W.subIn K (.ref C8) (.ref C11) = some false)
    (s8_12 : PySem.W.subIn K (.ref C8) (.ref C12) = some false)
    (s9_0 : PySem.W.subIn K (.ref C9) (.ref C0) = some false)
    (s9_1 : PySem.W.subIn K (.ref C9) (.ref C1) = some false)
    (s9_2 : PySem.W.subIn K (.ref C9) (.ref C2) = some false)
    (s9_3 : PySem.W.subIn K (.ref C9) (.ref C3) = some false)
    (s9_4 : PySem.W.subIn K (.ref C9) (.ref C4) = some false)
    (s9_5 : PySem.W.subIn K (.ref C9) (.ref C5) = some false)
    (s9_6 : PySem.W.subIn K (.ref C9) (.ref C6) = some false)
    (s9_7 : PySem.W.subIn K (.ref C9) (.ref C7) = some false)
    (s9_8 : PySem.W.subIn K (.ref C9) (.ref C8) = some false)
    (s9_9 : PySem.W.subIn K (.ref C9) (.ref C9) = some true)
    (s9_10 : PySem.W.subIn K (.ref C9) (.ref C10) = some false)
    (s9_11 : PySem.W.subIn K (.ref C9) (.ref C11) = some false)
    (s9_12 : PySem.W.subIn K (.ref C9) (.ref C12) = some false)
    (s10_0 : PySem.W.subIn K (.ref C10) (.ref C0) = some false)
    (s10_1 : PySem.W.subIn K (.ref C10) (.ref C1) = some false)
    (s10_2 : PySem.W.subIn K (.ref C10) (.ref C2) = some false)
    (s10_3 : PySem.W.subIn K (.ref C10) (.ref C3) = some false)
    (s10_4 : PySem.W.subIn K (.ref C10) (.ref C4) = some false)
    (s10_5 : PySem.W.subIn K (.ref C10) (.ref C5) = some false)
    (s10_6 : PySem.W.subIn K (.ref C10) (.ref C6) = some false)
    (s10_7 : PySem.W.subIn K (.ref C10) (.ref C7) = some false)
    (s10_8 : PySem.W.subIn K (.ref C10) (.ref C8) = some false)
    (s10_9 : PySem.W.subIn K (.ref C10) (.ref C9) = some false)
    (s10_10 : PySem.W.subIn K (.ref C10) (.ref C10) = some true)
    (s10_11 : PySem.W.subIn K (.ref C10) (.ref C11) = some false)
    (s10_12 : PySem.W.subIn K (.ref C10) (.ref C12) = some false)
    (s11_0 : PySem.W.subIn K (.ref C11) (.ref C0) = some false)
    (s11_1 : PySem.W.subIn K (.ref C11) (.ref C1) = some false)
    (s11_2 : PySem.W.subIn K (.ref C11) (.ref C2) = some false)
    (s11_3 : PySem.W.subIn K (.ref C11) (.ref C3) = some false)
    (s11_4 : PySem.W.subIn K (.ref C11) (.ref C4) = some false)
    (s11_5 : PySem.W.subIn K (.ref C11) (.ref C5) = some false)
    (s11_6 : PySem.W.subIn K (.ref C11) (.ref C6) = some false)
    (s11_7 : PySem.W.subIn K (.ref C11) (.ref C7) = some false)
    (s11_8 : PySem.W.subIn K (.ref C11) (.ref C8) = some false)
    (s11_9 : PySem.W.subIn K (.ref C11) (.ref C9) = some false)
    (s11_10 : PySem.W.subIn K (.ref C11) (.ref C10) = some false)
    (s11_11 : PySem.W.subIn K (.ref C11) (.ref C11) = some true)
    (s11_12 : PySem.W.subIn K (.ref C11) (.ref C12) = some false)
    (s12_0 : PySem.W.subIn K (.ref C12) (.ref C0) = some false)
    (s12_1 : PySem.W.subIn K (.ref C12) (.ref C1) = some false)
    (s12_2 : PySem.W.subIn K (.ref C12) (.ref C2) = some false)
    (s12_3 : PySem.W.subIn K (.ref C12) (.ref C3) = some false)
    (s12_4 : PySem.W.subIn K (.ref C12) (.ref C4) = some false)
    (s12_5 : PySem.W.subIn K (.ref C12) (.ref C5) = some false)
    (s12_6 : PySem.W.subIn K (.ref C12) (.ref C6) = some false)
    (s12_7 : PySem.W.subIn K (.ref C12) (.ref C7) = some false)
    (s12_8 : PySem.W.subIn K (.ref C12) (.ref C8) = some false)
    (s12_9 : PySem.W.subIn K (.ref C12) (.ref C9) = some false)
    (s12_10 : PySem.W.subIn K (.ref C12) (.ref C10) = some false)
    (s12_11 : PySem.W.subIn K (.ref C12) (.ref C11) = some false)
    (s12_12 : PySem.W.subIn K (.ref C12) (.ref C12) = some true)
    : ∃ fd : FuncData, (∀ (s : Shared) (v : Value), BindsTo s fd ⟨[v], []⟩ [("_law_script", v)]) ∧ ∀ base : Heap, K.In base → base.Ns mainGlobals mg → FnG l.prog w K mg base 5 fa fd ["_law_script"] (spLaw K) := by
  have e := hfa.symm.trans (PySem.W.mg_of X G a20)
  cases e
  have F1 := fun_mk (st := sNum) l1 c1 k1
  have b1 := F1.binds (ps := ["value", "highest"]) fun _ _ _ _ _ _ us hl => match us, hl with | [_, _], _ => rfl
  have m1 := PySem.W.mg_of X G a1
  have F2 := fun_mk (st := sDay) l2 c2 k2
  have b2 := F2.binds (ps := ["value"]) fun _ _ _ _ _ _ us hl => match us, hl with | [_], _ => rfl
  have m2 := PySem.W.mg_of X G a2
  have F3 := fun_mk (st := sWord) l3 c3 k3
  have b3 := F3.binds (ps := ["value"]) fun _ _ _ _ _ _ us hl => match us, hl with | [_], _ => rfl
  have m3 := PySem.W.mg_of X G a3
  have F4 := fun_mk (st := sAddr) l4 c4 k4
  have b4 := F4.binds (ps := ["value"]) fun _ _ _ _ _ _ us hl => match us, hl with | [_], _ => rfl
  have m4 := PySem.W.mg_of X G a4
  have F5 := fun_mk (st := sBegins) l5 c5 k5
  have b5 := F5.binds (ps := ["address", "beginning"]) fun _ _ _ _ _ _ us hl => match us, hl with | [_, _], _ => rfl
  have m5 := PySem.W.mg_of X G a5
  have F6 := fun_mk (st := sRest) l6 c6 k6
  have b6 := F6.binds (ps := ["address", "beginning"]) fun _ _ _ _ _ _ us hl => match us, hl with | [_, _], _ => rfl
  have m6 := PySem.W.mg_of X G a6
  have F7 := fun_mk (st := sKey) l7 c7 k7
  have b7 := F7.binds (ps := ["address"]) fun _ _ _ _ _ _ us hl => match us, hl with | [_], _ => rfl
  have m7 := PySem.W.mg_of X G a7
  have F8 := fun_mk (st := sBegs) l8 c8 k8
  have b8 := F8.binds (ps := ["address"]) fun _ _ _ _ _ _ us hl => match us, hl with | [_], _ => rfl
  have m8 := PySem.W.mg_of X G a8
  have F9 := fun_mk (st := sNext) l9 c9 k9
  have b9 := F9.binds (ps := ["word"]) fun _ _ _ _ _ _ us hl => match us, hl with | [_], _ => rfl
  have m9 := PySem.W.mg_of X G a9
  have F10 := fun_mk (st := sStrange) l10 c10 k10
  have b10 := F10.binds (ps := ["words"]) fun _ _ _ _ _ _ us hl => match us, hl with | [_], _ => rfl
  have m10 := PySem.W.mg_of X G a10
  have F11 := fun_mk (st := sWell) l11 c11 k11
  have b11 := F11.binds (ps := ["_law_script", "_law_start"]) fun _ _ _ _ _ _ us hl => match us, hl with | [_, _], _ => rfl
  have m11 := PySem.W.mg_of X G a11
  have F12 := fun_mk (st := sDraw) l12 c12 k12
  have b12 := F12.binds (ps := ["_law_well_here", "_law_many"]) fun _ _ _ _ _ _ us hl => match us, hl with | [_, _], _ => rfl
  have m12 := PySem.W.mg_of X G a12
  have F13 := fun_mk (st := sChoose) l13 c13 k13
  have b13 := F13.binds (ps := ["_law_well_here", "_law_things"]) fun _ _ _ _ _ _ us hl => match us, hl with | [_, _], _ => rfl
  have m13 := PySem.W.mg_of X G a13
  have F14 := fun_mk (st := sAny) l14 c14 k14
  have b14 := F14.binds (ps := ["_law_well_here"]) fun _ _ _ _ _ _ us hl => match us, hl with | [_], _ => rfl
  have m14 := PySem.W.mg_of X G a14
  have F15 := fun_mk (st := sKinds) l15 c15 k15
  have b15 := F15.binds (ps := ["_law_error"]) fun _ _ _ _ _ _ us hl => match us, hl with | [_], _ => rfl
  have m15 := PySem.W.mg_of X G a15
  have F16 := fun_mk (st := sOne) l16 c16 k16
  have b16 := F16.binds (ps := ["_law_error", "_law_at"]) fun _ _ _ _ _ _ us hl => match us, hl with | [_, _], _ => rfl
  have m16 := PySem.W.mg_of X G a16
  have F17 := fun_mk (st := sMade) l17 c17 k17
  have b17 := F17.binds (ps := ["_law_thing"]) fun _ _ _ _ _ _ us hl => match us, hl with | [_], _ => rfl
  have m17 := PySem.W.mg_of X G a17
  have F18 := fun_mk (st := sNamed) l18 c18 k18
  have b18 := F18.binds (ps := ["_law_thing"]) fun _ _ _ _ _ _ us hl => match us, hl with | [_], _ => rfl
  have m18 := PySem.W.mg_of X G a18
  have F19 := fun_mk (st := sBy) l19 c19 k19
  have b19 := F19.binds (ps := ["_law_well_here"]) fun _ _ _ _ _ _ us hl => match us, hl with | [_], _ => rfl
  have m19 := PySem.W.mg_of X G a19
  have F20 := fun_mk (st := sLaw) l20 c20 k20
  have T : Tx mg := ⟨PySem.W.mg_none_of X G z1, PySem.W.mg_none_of X G z2, PySem.W.mg_none_of X G z3, PySem.W.mg_none_of X G z4, PySem.W.mg_none_of X G z5, PySem.W.mg_none_of X G z6, PySem.W.mg_none_of X G z7, PySem.W.mg_none_of X G z8, PySem.W.mg_none_of X G z9, PySem.W.mg_none_of X G z10, PySem.W.mg_none_of X G z11, PySem.W.mg_none_of X G z12, PySem.W.mg_none_of X G z13, PySem.W.mg_none_of X G z14, ⟨_, PySem.W.mg_of X G g1⟩, ⟨_, PySem.W.mg_of X G g2⟩, ⟨_, PySem.W.mg_of X G g3⟩⟩
  have R0 : Raw K C0 cL i0 "value" := ⟨⟨_, _, _, _, _, _, _, _, _, _, _, _, _, _, e0x⟩, e0sa, e0ga, e0gg, e0ha, e0no, e0iC, e0tI, e0kC, e0eC, e0tC, e0hC, e0hm, e0cC, e0sL, e0sV⟩
  have I0 := fun_mk (st := sI0) li0 ci0 ki0
  have R1 : Raw K C1 cL i1 "value" := ⟨⟨_, _, _, _, _, _, _, _, _, _, _, _, _, _, e1x⟩, e1sa, e1ga, e1gg, e1ha, e1no, e1iC, e1tI, e1kC, e1eC, e1tC, e1hC, e1hm, e1cC, e1sL, e1sV⟩
  have I1 := fun_mk (st := sI1) li1 ci1 ki1
  have R2 : Raw K C2 cL i2 "value" := ⟨⟨_, _, _, _, _, _, _, _, _, _, _, _, _, _, e2x⟩, e2sa, e2ga, e2gg, e2ha, e2no, e2iC, e2tI, e2kC, e2eC, e2tC, e2hC, e2hm, e2cC, e2sL, e2sV⟩
  have I2 := fun_mk (st := sI2) li2 ci2 ki2
  have R3 : Raw K C3 cL i3 "value" := ⟨⟨_, _, _, _, _, _, _, _, _, _, _, _, _, _, e3x⟩, e3sa, e3ga, e3gg, e3ha, e3no, e3iC, e3tI, e3kC, e3eC, e3tC, e3hC, e3hm, e3cC, e3sL, e3sV⟩
  have I3 := fun_mk (st := sI3) li3 ci3 ki3
  have R4 : Raw K C4 cL i4 "value" := ⟨⟨_, _, _, _, _, _, _, _, _, _, _, _, _, _, e4x⟩, e4sa, e4ga, e4gg, e4ha, e4no, e4iC, e4tI, e4kC, e4eC, e4tC, e4hC, e4hm, e4cC, e4sL, e4sV⟩
  have I4 := fun_mk (st := sI4) li4 ci4 ki4
  have R5 : Raw K C5 cL i5 "value" := ⟨⟨_, _, _, _, _, _, _, _, _, _, _, _, _, _, e5x⟩, e5sa, e5ga, e5gg, e5ha, e5no, e5iC, e5tI, e5kC, e5eC, e5tC, e5hC, e5hm, e5cC, e5sL, e5sV⟩
  have I5 := fun_mk (st := sI5) li5 ci5 ki5
  have R6 : Raw K C6 cL i6 "name" := ⟨⟨_, _, _, _, _, _, _, _, _, _, _, _, _, _, e6x⟩, e6sa, e6ga, e6gg, e6ha, e6no, e6iC, e6tI, e6kC, e6eC, e6tC, e6hC, e6hm, e6cC, e6sL, e6sV⟩
  have I6 := fun_mk (st := sI6) li6 ci6 ki6
  have R7 : Raw K C7 cL i7 "name" := ⟨⟨_, _, _, _, _, _, _, _, _, _, _, _, _, _, e7x⟩, e7sa, e7ga, e7gg, e7ha, e7no, e7iC, e7tI, e7kC, e7eC, e7tC, e7hC, e7hm, e7cC, e7sL, e7sV⟩
  have I7 := fun_mk (st := sI7) li7 ci7 ki7
  have R8 : Raw K C8 cL i8 "name" := ⟨⟨_, _, _, _, _, _, _, _, _, _, _, _, _, _, e8x⟩, e8sa, e8ga, e8gg, e8ha, e8no, e8iC, e8tI, e8kC, e8eC, e8tC, e8hC, e8hm, e8cC, e8sL, e8sV⟩
  have I8 := fun_mk (st := sI8) li8 ci8 ki8
  have R9 : Raw K C9 cL i9 "name" := ⟨⟨_, _, _, _, _, _, _, _, _, _, _, _, _, _, e9x⟩, e9sa, e9ga, e9gg, e9ha, e9no, e9iC, e9tI, e9kC, e9eC, e9tC, e9hC, e9hm, e9cC, e9sL, e9sV⟩
  have I9 := fun_mk (st := sI9) li9 ci9 ki9
  have R10 : Raw K C10 cL i10 "place" := ⟨⟨_, _, _, _, _, _, _, _, _, _, _, _, _, _, e10x⟩, e10sa, e10ga, e10gg, e10ha, e10no, e10iC, e10tI, e10kC, e10eC, e10tC, e10hC, e10hm, e10cC, e10sL, e10sV⟩
  have I10 := fun_mk (st := sI10) li10 ci10 ki10
  have R11 : Raw K C11 cL i11 "command" := ⟨⟨_, _, _, _, _, _, _, _, _, _, _, _, _, _, e11x⟩, e11sa, e11ga, e11gg, e11ha, e11no, e11iC, e11tI, e11kC, e11eC, e11tC, e11hC, e11hm, e11cC, e11sL, e11sV⟩
  have I11 := fun_mk (st := sI11) li11 ci11 ki11
  have R12 : Raw K C12 cL i12 "way" := ⟨⟨_, _, _, _, _, _, _, _, _, _, _, _, _, _, e12x⟩, e12sa, e12ga, e12gg, e12ha, e12no, e12iC, e12tI, e12kC, e12eC, e12tC, e12hC, e12hm, e12cC, e12sL, e12sV⟩
  have I12 := fun_mk (st := sI12) li12 ci12 ki12
  refine ⟨PySem.W.fnOf "law" "law" (defArgs sLaw) (defBody sLaw) (defScope sLaw) .none kV20 dc20 pm20 an20 cd20 ct20, fun s v => .of_eq rfl, fun base _ _ => ?_⟩
  have E : Errs K mg (fun i => [C0, C1, C2, C3, C4, C5, C6, C7, C8, C9, C10, C11, C12].getD i 0) cL := {
    g0 := PySem.W.mg_of X G e0
    g1 := PySem.W.mg_of X G e1
    g2 := PySem.W.mg_of X G e2
    g3 := PySem.W.mg_of X G e3
    g4 := PySem.W.mg_of X G e4
    g5 := PySem.W.mg_of X G e5
    g6 := PySem.W.mg_of X G e6
    g7 := PySem.W.mg_of X G e7
    g8 := PySem.W.mg_of X G e8
    g9 := PySem.W.mg_of X G e9
    g10 := PySem.W.mg_of X G e10
    g11 := PySem.W.mg_of X G e11
    g12 := PySem.W.mg_of X G e12
    gL := PySem.W.mg_of X G eL
    xf := cases13 (R0.xf) (R1.xf) (R2.xf) (R3.xf) (R4.xf) (R5.xf) (R6.xf) (R7.xf) (R8.xf) (R9.xf) (R10.xf) (R11.xf) (R12.xf)
    ex := cases13 (R0.ex kn kt) (R1.ex kn kt) (R2.ex kn kt) (R3.ex kn kt) (R4.ex kn kt) (R5.ex kn kt) (R6.ex kn kt) (R7.ex kn kt) (R8.ex kn kt) (R9.ex kn kt) (R10.ex kn kt) (R11.ex kn kt) (R12.ex kn kt)
    no := cases13 (R0.no) (R1.no) (R2.no) (R3.no) (R4.no) (R5.no) (R6.no) (R7.no) (R8.no) (R9.no) (R10.no) (R11.no) (R12.no)
    T := cases13 (R0.oex) (R1.oex) (R2.oex) (R3.oex) (R4.oex) (R5.oex) (R6.oex) (R7.oex) (R8.oex) (R9.oex) (R10.oex) (R11.oex) (R12.oex)
    kit := cases13 (cases13 (kit_yes s0_0 e0cC e0tC) (kit_no s0_0 s0_1 e1cC e1tC) (kit_no s0_0 s0_2 e2cC e2tC) (kit_no s0_0 s0_3 e3cC e3tC) (kit_no s0_0 s0_4 e4cC e4tC) (kit_no s0_0 s0_5 e5cC e5tC) (kit_no s0_0 s0_6 e6cC e6tC) (kit_no s0_0 s0_7 e7cC e7tC) (kit_no s0_0 s0_8 e8cC e8tC) (kit_no s0_0 s0_9 e9cC e9tC) (kit_no s0_0 s0_10 e10cC e10tC) (kit_no s0_0 s0_11 e11cC e11tC) (kit_no s0_0 s0_12 e12cC e12tC)) (cases13 (kit_no s1_1 s1_0 e0cC e0tC) (kit_yes s1_1 e1cC e1tC) (kit_no s1_1 s1_2 e2cC e2tC) (kit_no s1_1 s1_3 e3cC e3tC) (kit_no s1_1 s1_4 e4cC e4tC) (kit_no s1_1 s1_5 e5cC e5tC) (kit_no s1_1 s1_6 e6cC e6tC) (kit_no s1_1 s1_7 e7cC e7tC) (kit_no s1_1 s1_8 e8cC e8tC) (kit_no s1_1 s1_9 e9cC e9tC) (kit_no s1_1 s1_10 e10cC e10tC) (kit_no s1_1 s1_11 e11cC e11tC) (kit_no s1_1 s1_12 e12cC e12tC)) (cases13 (kit_no s2_2 s2_0 e0cC e0tC) (kit_no s2_2 s2_1 e1cC e1tC) (kit_yes s2_2 e2cC e2tC) (kit_no s2_2 s2_3 e3cC e3tC) (kit_no s2_2 s2_4 e4cC e4tC) (kit_no s2_2 s2_5 e5cC e5tC) (kit_no s2_2 s2_6 e6cC e6tC) (kit_no s2_2 s2_7 e7cC e7tC) (kit_no s2_2 s2_8 e8cC e8tC) (kit_no s2_2 s2_9 e9cC e9tC) (kit_no s2_2 s2_10 e10cC e10tC) (kit_no s2_2 s2_11 e11cC e11tC) (kit_no s2_2 s2_12 e12cC e12tC)) (cases13 (kit_no s3_3 s3_0 e0cC e0tC) (kit_no s3_3 s3_1 e1cC e1tC) (kit_no s3_3 s3_2 e2cC e2tC) (kit_yes s3_3 e3cC e3tC) (kit_no s3_3 s3_4 e4cC e4tC) (kit_no s3_3 s3_5 e5cC e5tC) (kit_no s3_3 s3_6 e6cC e6tC) (kit_no s3_3 s3_7 e7cC e7tC) (kit_no s3_3 s3_8 e8cC e8tC) (kit_no s3_3 s3_9 e9cC e9tC) (kit_no s3_3 s3_10 e10cC e10tC) (kit_no s3_3 s3_11 e11cC e11tC) (kit_no s3_3 s3_12 e12cC e12tC)) (cases13 (kit_no s4_4 s4_0 e0cC e0tC) (kit_no s4_4 s4_1 e1cC e1tC) (kit_no s4_4 s4_2 e2cC e2tC) (kit_no s4_4 s4_3 e3cC e3tC) (kit_yes s4_4 e4cC e4tC) (kit_no s4_4 s4_5 e5cC e5tC) (kit_no s4_4 s4_6 e6cC e6tC) (kit_no s4_4 s4_7 e7cC e7tC) (kit_no s4_4 s4_8 e8cC e8tC) (kit_no s4_4 s4_9 e9cC e9tC) (kit_no s4_4 s4_10 e10cC e10tC) (kit_no s4_4 s4_11 e11cC e11tC) (kit_no s4_4 s4_12 e12cC e12tC)) (cases13 (kit_no s5_5 s5_0 e0cC e0tC) (kit_no s5_5 s5_1 e1cC e1tC) (kit_no s5_5 s5_2 e2cC e2tC) (kit_no s5_5 s5_3 e3cC e3tC) (kit_no s5_5 s5_4 e4cC e4tC) (kit_yes s5_5 e5cC e5tC) (kit_no s5_5 s5_6 e6cC e6tC) (kit_no s5_5 s5_7 e7cC e7tC) (kit_no s5_5 s5_8 e8cC e8tC) (kit_no s5_5 s5_9 e9cC e9tC) (kit_no s5_5 s5_10 e10cC e10tC) (kit_no s5_5 s5_11 e11cC e11tC) (kit_no s5_5 s5_12 e12cC e12tC)) (cases13 (kit_no s6_6 s6_0 e0cC e0tC) (kit_no s6_6 s6_1 e1cC e1tC) (kit_no s6_6 s6_2 e2cC e2tC) (kit_no s6_6 s6_3 e3cC e3tC) (kit_no s6_6 s6_4 e4cC e4tC) (kit_no s6_6 s6_5 e5cC e5tC) (kit_yes s6_6 e6cC e6tC) (kit_no s6_6 s6_7 e7cC e7tC) (kit_no s6_6 s6_8 e8cC e8tC) (kit_no s6_6 s6_9 e9cC e9tC) (kit_no s6_6 s6_10 e10cC e10tC) (kit_no s6_6 s6_11 e11cC e11tC) (kit_no s6_6 s6_12 e12cC e12tC)) (cases13 (kit_no s7_7 s7_0 e0cC e0tC) (kit_no s7_7 s7_1 e1cC e1tC) (kit_no s7_7 s7_2 e2cC e2tC) (kit_no s7_7 s7_3 e3cC e3tC) (kit_no s7_7 s7_4 e4cC e4tC) (kit_no s7_7 s7_5 e5cC e5tC) (kit_no s7_7 s7_6 e6cC e6tC) (kit_yes s7_7 e7cC e7tC) (kit_no s7_7 s7_8 e8cC e8tC) (kit_no s7_7 s7_9 e9cC e9tC) (kit_no s7_7 s7_10 e10cC e10tC) (kit_no s7_7 s7_11 e11cC e11tC) (kit_no s7_7 s7_12 e12cC e12tC)) (cases13 (kit_no s8_8 s8_0 e0cC e0tC) (kit_no s8_8 s8_1 e1cC e1tC) (kit_no s8_8 s8_2 e2cC e2tC) (kit_no s8_8 s8_3 e3cC e3tC) (kit_no s8_8 s8_4 e4cC e4tC) (kit_no s8_8 s8_5 e5cC e5tC) (kit_no s8_8 s8_6 e6cC e6tC) (kit_no s8_8 s8_7 e7cC e7tC) (kit_yes s8_8 e8cC e8tC) (kit_no s8_8 s8_9 e9cC e9tC) (kit_no s8_8 s8_10 e10cC e10tC) (kit_no s8_8 s8_11 e11cC e11tC) (kit_no s8_8 s8_12 e12cC e12tC)) (cases13 (kit_no s9_9 s9_0 e0cC e0tC) (kit_no s9_9 s9_1 e1cC e1tC) (kit_no s9_9 s9_2 e2cC e2tC) (kit_no s9_9 s9_3 e3cC e3tC) (kit_no s9_9 s9_4 e4cC e4tC) (kit_no s9_9 s9_5 e5cC e5tC) (kit_no s9_9 s9_6 e6cC e6tC) (kit_no s9_9 s9_7 e7cC e7tC) (kit_no s9_9 s9_8 e8cC e8tC) (kit_yes s9_9 e9cC e9tC) (kit_no s9_9 s9_10 e10cC e10tC) (kit_no s9_9 s9_11 e11cC e11tC) (kit_no s9_9 s9_12 e12cC e12tC)) (cases13 (kit_no s10_10 s10_0 e0cC e0tC) (kit_no s10_10 s10_1 e1cC e1tC) (kit_no s10_10 s10_2 e2cC e2tC) (kit_no s10_10 s10_3 e3cC e3tC) (kit_no s10_10 s10_4 e4cC e4tC) (kit_no s10_10 s10_5 e5cC e5tC) (kit_no s10_10 s10_6 e6cC e6tC) (kit_no s10_10 s10_7 e7cC e7tC) (kit_no s10_10 s10_8 e8cC e8tC) (kit_no s10_10 s10_9 e9cC e9tC) (kit_yes s10_10 e10cC e10tC) (kit_no s10_10 s10_11 e11cC e11tC) (kit_no s10_10 s10_12 e12cC e12tC)) (cases13 (kit_no s11_11 s11_0 e0cC e0tC) (kit_no s11_11 s11_1 e1cC e1tC) (kit_no s11_11 s11_2 e2cC e2tC) (kit_no s11_11 s11_3 e3cC e3tC) (kit_no s11_11 s11_4 e4cC e4tC) (kit_no s11_11 s11_5 e5cC e5tC) (kit_no s11_11 s11_6 e6cC e6tC) (kit_no s11_11 s11_7 e7cC e7tC) (kit_no s11_11 s11_8 e8cC e8tC) (kit_no s11_11 s11_9 e9cC e9tC) (kit_no s11_11 s11_10 e10cC e10tC) (kit_yes s11_11 e11cC e11tC) (kit_no s11_11 s11_12 e12cC e12tC)) (cases13 (kit_no s12_12 s12_0 e0cC e0tC) (kit_no s12_12 s12_1 e1cC e1tC) (kit_no s12_12 s12_2 e2cC e2tC) (kit_no s12_12 s12_3 e3cC e3tC) (kit_no s12_12 s12_4 e4cC e4tC) (kit_no s12_12 s12_5 e5cC e5tC) (kit_no s12_12 s12_6 e6cC e6tC) (kit_no s12_12 s12_7 e7cC e7tC) (kit_no s12_12 s12_8 e8cC e8tC) (kit_no s12_12 s12_9 e9cC e9tC) (kit_no s12_12 s12_10 e10cC e10tC) (kit_no s12_12 s12_11 e11cC e11tC) (kit_yes s12_12 e12cC e12tC))
    kitL := cases13 (kit_yes e0sL eLc eLt) (kit_yes e1sL eLc eLt) (kit_yes e2sL eLc eLt) (kit_yes e3sL eLc eLt) (kit_yes e4sL eLc eLt) (kit_yes e5sL eLc eLt) (kit_yes e6sL eLc eLt) (kit_yes e7sL eLc eLt) (kit_yes e8sL eLc eLt) (kit_yes e9sL eLc eLt) (kit_yes e10sL eLc eLt) (kit_yes e11sL eLc eLt) (kit_yes e12sL eLc eLt)
    kitV := cases13 (kit_ve e0sV) (kit_ve e1sV) (kit_ve e2sV) (kit_ve e3sV) (kit_ve e4sV) (kit_ve e5sV) (kit_ve e6sV) (kit_ve e7sV) (kit_ve e8sV) (kit_ve e9sV) (kit_ve e10sV) (kit_ve e11sV) (kit_ve e12sV) }
  have M : Mks l.prog w K mg base (fun i => [C0, C1, C2, C3, C4, C5, C6, C7, C8, C9, C10, C11, C12].getD i 0) := {
    m0 := ⟨_, _, PySem.W.mg_of X G e0, R0.xmk, R0.no, ok_I0 I0, ⟨fun s us ws X l1 l2 => match us, ws, l1, l2 with | [_, _], [], _, _ => .of_eq rfl, fun r _ => r⟩, ⟨fun s us ws X l1 l2 => match us, ws, l1, l2 with | [_], [_], _, _ => .of_eq rfl, fun r1 r2 => r1.append r2⟩⟩
    m1 := ⟨_, _, PySem.W.mg_of X G e1, R1.xmk, R1.no, ok_I1 I1, ⟨fun s us ws X l1 l2 => match us, ws, l1, l2 with | [_, _], [], _, _ => .of_eq rfl, fun r _ => r⟩, ⟨fun s us ws X l1 l2 => match us, ws, l1, l2 with | [_], [_], _, _ => .of_eq rfl, fun r1 r2 => r1.append r2⟩⟩
    m2 := ⟨_, _, PySem.W.mg_of X G e2, R2.xmk, R2.no, ok_I2 I2, ⟨fun s us ws X l1 l2 => match us, ws, l1, l2 with | [_, _], [], _, _ => .of_eq rfl, fun r _ => r⟩, ⟨fun s us ws X l1 l2 => match us, ws, l1, l2 with | [_], [_], _, _ => .of_eq rfl, fun r1 r2 => r1.append r2⟩⟩
    m3 := ⟨_, _, PySem.W.mg_of X G e3, R3.xmk, R3.no, ok_I3 I3, ⟨fun s us ws X l1 l2 => match us, ws, l1, l2 with | [_, _], [], _, _ => .of_eq rfl, fun r _ => r⟩, ⟨fun s us ws X l1 l2 => match us, ws, l1, l2 with | [_], [_], _, _ => .of_eq rfl, fun r1 r2 => r1.append r2⟩⟩
    m4 := ⟨_, _, PySem.W.mg_of X G e4, R4.xmk, R4.no, ok_I4 I4, ⟨fun s us ws X l1 l2 => match us, ws, l1, l2 with | [_, _], [], _, _ => .of_eq rfl, fun r _ => r⟩, ⟨fun s us ws X l1 l2 => match us, ws, l1, l2 with | [_], [_], _, _ => .of_eq rfl, fun r1 r2 => r1.append r2⟩⟩
    m5 := ⟨_, _, PySem.W.mg_of X G e5, R5.xmk, R5.no, ok_I5 I5, ⟨fun s us ws X l1 l2 => match us, ws, l1, l2 with | [_, _], [], _, _ => .of_eq rfl, fun r _ => r⟩, ⟨fun s us ws X l1 l2 => match us, ws, l1, l2 with | [_], [_], _, _ => .of_eq rfl, fun r1 r2 => r1.append r2⟩⟩
    m6 := ⟨_, _, PySem.W.mg_of X G e6, R6.xmk, R6.no, ok_I6 I6, ⟨fun s us ws X l1 l2 => match us, ws, l1, l2 with | [_, _], [], _, _ => .of_eq rfl, fun r _ => r⟩, ⟨fun s us ws X l1 l2 => match us, ws, l1, l2 with | [_], [_], _, _ => .of_eq rfl, fun r1 r2 => r1.append r2⟩⟩
    m7 := ⟨_, _, PySem.W.mg_of X G e7, R7.xmk, R7.no, ok_I7 I7, ⟨fun s us ws X l1 l2 => match us, ws, l1, l2 with | [_, _], [], _, _ => .of_eq rfl, fun r _ => r⟩, ⟨fun s us ws X l1 l2 => match us, ws, l1, l2 with | [_], [_], _, _ => .of_eq rfl, fun r1 r2 => r1.append r2⟩⟩
    m8 := ⟨_, _, PySem.W.mg_of X G e8, R8.xmk, R8.no, ok_I8 I8, ⟨fun s us ws X l1 l2 => match us, ws, l1, l2 with | [_, _], [], _, _ => .of_eq rfl, fun r _ => r⟩, ⟨fun s us ws X l1 l2 => match us, ws, l1, l2 with | [_], [_], _, _ => .of_eq rfl, fun r1 r2 => r1.append r2⟩⟩
    m9 := ⟨_, _, PySem.W.mg_of X G e9, R9.xmk, R9.no, ok_I9 I9, ⟨fun s us ws X l1 l2 => match us, ws, l1, l2 with | [_, _], [], _, _ => .of_eq rfl, fun r _ => r⟩, ⟨fun s us ws X l1 l2 => match us, ws, l1, l2 with | [_], [_], _, _ => .of_eq rfl, fun r1 r2 => r1.append r2⟩⟩
    m10 := ⟨_, _, PySem.W.mg_of X G e10, R10.xmk, R10.no, ok_I10 I10, ⟨fun s us ws X l1 l2 => match us, ws, l1, l2 with | [_, _], [], _, _ => .of_eq rfl, fun r _ => r⟩, ⟨fun s us ws X l1 l2 => match us, ws, l1, l2 with | [_], [_], _, _ => .of_eq rfl, fun r1 r2 => r1.append r2⟩⟩
    m11 := ⟨_, _, PySem.W.mg_of X G e11, R11.xmk, R11.no, ok_I11 I11, ⟨fun s us ws X l1 l2 => match us, ws, l1, l2 with | [_, _], [], _, _ => .of_eq rfl, fun r _ => r⟩, ⟨fun s us ws X l1 l2 => match us, ws, l1, l2 with | [_], [_], _, _ => .of_eq rfl, fun r1 r2 => r1.append r2⟩⟩
    m12 := ⟨_, _, PySem.W.mg_of X G e12, R12.xmk, R12.no, ok_I12 I12, ⟨fun s us ws X l1 l2 => match us, ws, l1, l2 with | [_, _], [], _, _ => .of_eq rfl, fun r _ => r⟩, ⟨fun s us ws X l1 l2 => match us, ws, l1, l2 with | [_], [_], _, _ => .of_eq rfl, fun r1 r2 => r1.append r2⟩⟩ }
  have dNum : Df l.prog w K mg base 1 "is_number_to" ["value", "highest"] (spNum K) := ⟨_, _, m1, k1, b1, ok_num F1 T⟩
  have dDay : Df l.prog w K mg base 2 "is_day" ["value"] (spDay K) := ⟨_, _, m2, k2, b2, ok_day F2 T dNum⟩
  have dDayK : DfK l.prog w K mg base 2 "is_day" ["value"] ["value"] gSnd (spDay K) := ⟨_, _, (fun us ws => us ++ ws), m2, k2, ⟨fun s us ws X l1 l2 => match us, ws, l1, l2 with | [], [_], _, _ => .of_eq rfl, fun r1 r2 => r1.append r2⟩, ok_day F2 T dNum⟩
  have dWord : Df l.prog w K mg base 1 "is_word" ["value"] (spWord K) := ⟨_, _, m3, k3, b3, ok_word F3 T⟩
  have dWordK : DfK l.prog w K mg base 1 "is_word" ["value"] ["value"] gSnd (spWord K) := ⟨_, _, (fun us ws => us ++ ws), m3, k3, ⟨fun s us ws X l1 l2 => match us, ws, l1, l2 with | [], [_], _, _ => .of_eq rfl, fun r1 r2 => r1.append r2⟩, ok_word F3 T⟩
  have dAddr : Df l.prog w K mg base 2 "is_address" ["value"] (spAddr K) := ⟨_, _, m4, k4, b4, ok_addr F4 T dWord⟩
  have dAddrK : DfK l.prog w K mg base 2 "is_address" ["value"] ["value"] gSnd (spAddr K) := ⟨_, _, (fun us ws => us ++ ws), m4, k4, ⟨fun s us ws X l1 l2 => match us, ws, l1, l2 with | [], [_], _, _ => .of_eq rfl, fun r1 r2 => r1.append r2⟩, ok_addr F4 T dWord⟩
  have dBegins : Df l.prog w K mg base 1 "begins" ["address", "beginning"] (spBegins K) := ⟨_, _, m5, k5, b5, ok_begins F5 T⟩
  have dBeginsK : DfK l.prog w K mg base 1 "begins" ["address", "beginning"] ["beginning", "address"] gBack (spBegins K) := ⟨_, _, (fun (_ : List Value) (ws : List Value) => match ws with | [b, a] => [a, b] | _ => ws), m5, k5, ⟨fun s us ws X l1 l2 => match us, ws, l1, l2 with | [], [_, _], _, _ => .of_eq rfl, fun r1 r2 => back_rel r1 r2⟩, ok_begins F5 T⟩
  have dRest : Df l.prog w K mg base 1 "rest_of" ["address", "beginning"] (spRest K) := ⟨_, _, m6, k6, b6, ok_rest F6 T⟩
  have dRestK : DfK l.prog w K mg base 1 "rest_of" ["address", "beginning"] ["beginning", "address"] gBack (spRest K) := ⟨_, _, (fun (_ : List Value) (ws : List Value) => match ws with | [b, a] => [a, b] | _ => ws), m6, k6, ⟨fun s us ws X l1 l2 => match us, ws, l1, l2 with | [], [_, _], _, _ => .of_eq rfl, fun r1 r2 => back_rel r1 r2⟩, ok_rest F6 T⟩
  have dKey : Df l.prog w K mg base 1 "address_key" ["address"] (spKey K) := ⟨_, _, m7, k7, b7, ok_key F7 T⟩
  have dKeyK : DfK l.prog w K mg base 1 "address_key" ["address"] ["address"] gSnd (spKey K) := ⟨_, _, (fun us ws => us ++ ws), m7, k7, ⟨fun s us ws X l1 l2 => match us, ws, l1, l2 with | [], [_], _, _ => .of_eq rfl, fun r1 r2 => r1.append r2⟩, ok_key F7 T⟩
  have dBegs : Df l.prog w K mg base 1 "beginnings" ["address"] (spBegs K) := ⟨_, _, m8, k8, b8, ok_begs F8 T⟩
  have dBegsK : DfK l.prog w K mg base 1 "beginnings" ["address"] ["address"] gSnd (spBegs K) := ⟨_, _, (fun us ws => us ++ ws), m8, k8, ⟨fun s us ws X l1 l2 => match us, ws, l1, l2 with | [], [_], _, _ => .of_eq rfl, fun r1 r2 => r1.append r2⟩, ok_begs F8 T⟩
  have dNext : Df l.prog w K mg base 1 "_next_word" ["word"] spNext := ⟨_, _, m9, k9, b9, ok_next F9 T⟩
  have dStrange : Df l.prog w K mg base 2 "strange_word" ["words"] (spStrange K) := ⟨_, _, m10, k10, b10, ok_strange F10 T dNext⟩
  have dStrangeK : DfK l.prog w K mg base 2 "strange_word" ["words"] ["words"] gSnd (spStrange K) := ⟨_, _, (fun us ws => us ++ ws), m10, k10, ⟨fun s us ws X l1 l2 => match us, ws, l1, l2 with | [], [_], _, _ => .of_eq rfl, fun r1 r2 => r1.append r2⟩, ok_strange F10 T dNext⟩
  have dWell : Df l.prog w K mg base 1 "_law_well" ["_law_script", "_law_start"] (spWell K) := ⟨_, _, m11, k11, b11, ok_well F11 T⟩
  have dDraw : Df l.prog w K mg base 1 "_law_draw" ["_law_well_here", "_law_many"] spDraw := ⟨_, _, m12, k12, b12, ok_draw F12 T⟩
  have dChoose : Df l.prog w K mg base 2 "_law_choose" ["_law_well_here", "_law_things"] (spChoose K) := ⟨_, _, m13, k13, b13, ok_choose F13 T dDraw⟩
  have dAny : Df l.prog w K mg base 3 "_law_any" ["_law_well_here"] (spAny K) := ⟨_, _, m14, k14, b14, ok_any F14 T dDraw dChoose⟩
  have dKinds : Df l.prog w K mg base 1 "_law_kinds" ["_law_error"] (spKinds K (fun i => [C0, C1, C2, C3, C4, C5, C6, C7, C8, C9, C10, C11, C12].getD i 0)) := ⟨_, _, m15, k15, b15, ok_kinds F15 T E⟩
  have dOne : Df l.prog w K mg base 2 "_law_of_one_kind" ["_law_error", "_law_at"] (spOne K (fun i => [C0, C1, C2, C3, C4, C5, C6, C7, C8, C9, C10, C11, C12].getD i 0)) := ⟨_, _, m16, k16, b16, ok_one F16 T E dKinds⟩
  have dMade : Df l.prog w K mg base 3 "_law_made" ["_law_thing"] (spMade K (fun i => [C0, C1, C2, C3, C4, C5, C6, C7, C8, C9, C10, C11, C12].getD i 0)) := ⟨_, _, m17, k17, b17, ok_made F17 M⟩
  have dNamed : Df l.prog w K mg base 3 "_law_named" ["_law_thing"] (spMade K (fun i => [C0, C1, C2, C3, C4, C5, C6, C7, C8, C9, C10, C11, C12].getD i 0)) := ⟨_, _, m18, k18, b18, ok_named F18 M⟩
  have D : Calls l.prog w K mg base := ⟨dChoose, dAny, dWord, dWordK, dAddr, dAddrK, dDay, dDayK, dBegins, dBeginsK, dRest, dRestK, dKey, dKeyK, dBegs, dBegsK, dStrange, dStrangeK⟩
  have dBy : DfG l.prog w K mg base 4 "_law_by_name" ["_law_well_here"] spBy := ⟨_, _, m19, k19, b19, ok_by F19 T D⟩
  exact ok_law F20 T E ⟨dWell, dAny, dMade, dNamed, dOne, dBy⟩
theorem walk {l : PySem.W.OpenLaw} {q : Program} {loose : List Str} {XP : (Str → Option Value) → Heap → Prop} {YP : World → Heap → Prop} {d : DefRec} {K : Params → PySem.W.Frag} (hn : l.most = some 63) (hdf : d.params.defaults = []) (hY : ∀ (w : World) (h : Heap), YP w h → (K w.params).In h)
    (F : ∀ (w : World) (mg : Str → Option Value) (fa : Addr) (h : Heap), (K w.params).In h → h.Ns mainGlobals mg → mg d.name = some (.ref fa) → ∃ fd : FuncData, (∀ (s : Shared) (u : Value), BindsTo s fd ⟨[u], []⟩ [("_law_script", u)]) ∧
      ∀ base : Heap, (K w.params).In base → base.Ns mainGlobals mg → FnG l.prog w (K w.params) mg base 5 fa fd ["_law_script"] (spLaw (K w.params))) : PySem.W.WalkO q loose XP YP l.row.toRowW d [] (fun f vs => PySem.call f vs) :=
  Ld.walk_G (n := 63) (k := 5) (x := "_law_script") (sp := fun w => spLaw (K w.params)) hn (by decide) hdf ⟨rfl, by decide, by decide⟩ hY F fun w H a ns h1 h2 h3 => ⟨a, ns, rfl, h3, h1, h2, fun _ => rfl⟩
end K3
open PySem PySem.W PyProof.Rows
set_option maxRecDepth 100000 in
set_option maxHeartbeats 0 in
theorem PySem.Challenge.cw_leadsever_k03_errors_and_names_of_argume_holds : PySem.Challenge.rw_leadsever_k03_errors_and_names_of_argume.Holds := by
  w_on; o_law; k_head; (case hw => w_witness2)
  k_fill
  refine K3.walk (l := PySem.Challenge.rw_leadsever_k03_errors_and_names_of_argume) rfl rfl (fun w h Y => PySem.W.kIn_of Y) ?F
  case F =>
    intro w mg fa h KX G hmg
    refine' K3.all_mk KX G hmg ?a1 ?l1 ?c1 ?k1 ?a2 ?l2 ?c2 ?k2 ?a3 ?l3 ?c3 ?k3 ?a4 ?l4 ?c4 ?k4 ?a5 ?l5 ?c5 ?k5 ?a6 ?l6 ?c6 ?k6 ?a7 ?l7 ?c7 ?k7 ?a8 ?l8 ?c8 ?k8 ?a9 ?l9 ?c9 ?k9 ?a10 ?l10 ?c10 ?k10 ?a11 ?l11 ?c11 ?k11 ?a12 ?l12 ?c12 ?k12 ?a13 ?l13 ?c13 ?k13 ?a14 ?l14 ?c14 ?k14 ?a15 ?l15 ?c15 ?k15 ?a16 ?l16 ?c16 ?k16 ?a17 ?l17 ?c17 ?k17 ?a18 ?l18 ?c18 ?k18 ?a19 ?l19 ?c19 ?k19 ?a20 ?l20 ?c20 ?k20 ?z1 ?z2 ?z3 ?z4 ?z5 ?z6 ?z7 ?z8 ?z9 ?z10 ?z11 ?z12 ?z13 ?z14 ?g1 ?g2 ?g3 ?eL ?eLc ?eLt ?kn ?kt ?e0 ?e0x ?e0sa ?e0ga ?e0gg ?e0ha ?e0no ?e0iC ?e0tI ?e0kC ?e0eC ?e0tC ?e0hC ?e0hm ?e0cC ?e0sL ?e0sV ?li0 ?ci0 ?ki0 ?e1 ?e1x ?e1sa ?e1ga ?e1gg ?e1ha ?e1no ?e1iC ?e1tI ?e1kC ?e1eC ?e1tC ?e1hC ?e1hm ?e1cC ?e1sL ?e1sV ?li1 ?ci1 ?ki1 ?e2 ?e2x ?e2sa ?e2ga ?e2gg ?e2ha ?e2no ?e2iC ?e2tI ?e2kC ?e2eC ?e2tC ?e2hC ?e2hm ?e2cC ?e2sL ?e2sV ?li2 ?ci2 ?ki2 ?e3 ?e3x ?e3sa ?e3ga ?e3gg ?e3ha ?e3no ?e3iC ?e3tI ?e3kC ?e3eC ?e3tC ?e3hC ?e3hm ?e3cC ?e3sL ?e3sV ?li3 ?ci3 ?ki3 ?e4 ?e4x ?e4sa ?e4ga ?e4gg ?e4ha ?e4no ?e4iC ?e4tI ?e4kC ?e4eC ?e4tC ?e4hC ?e4hm ?e4cC ?e4sL ?e4sV ?li4 ?ci4 ?ki4 ?e5 ?e5x ?e5sa ?e5ga ?e5gg ?e5ha ?e5no ?e5iC ?e5tI ?e5kC ?e5eC ?e5tC ?e5hC ?e5hm ?e5cC ?e5sL ?e5sV ?li5 ?ci5 ?ki5 ?e6 ?e6x ?e6sa ?e6ga ?e6gg ?e6ha ?e6no ?e6iC ?e6tI ?e6kC ?e6eC ?e6tC ?e6hC ?e6hm ?e6cC ?e6sL ?e6sV ?li6 ?ci6 ?ki6 ?e7 ?e7x ?e7sa ?e7ga ?e7gg ?e7ha ?e7no ?e7iC ?e7tI ?e7kC ?e7eC ?e7tC ?e7hC ?e7hm ?e7cC ?e7sL ?e7sV ?li7 ?ci7 ?ki7 ?e8 ?e8x ?e8sa ?e8ga ?e8gg ?e8ha ?e8no ?e8iC ?e8tI ?e8kC ?e8eC ?e8tC ?e8hC ?e8hm ?e8cC ?e8sL ?e8sV ?li8 ?ci8 ?ki8 ?e9 ?e9x ?e9sa ?e9ga ?e9gg ?e9ha ?e9no ?e9iC ?e9tI ?e9kC ?e9eC ?e9tC ?e9hC ?e9hm ?e9cC ?e9sL ?e9sV ?li9 ?ci9 ?ki9 ?e10 ?e10x ?e10sa ?e10ga ?e10gg ?e10ha ?e10no ?e10iC ?e10tI ?e10kC ?e10eC ?e10tC ?e10hC ?e10hm ?e10cC ?e10sL ?e10sV ?li10 ?ci10 ?ki10 ?e11 ?e11x ?e11sa ?e11ga ?e11gg ?e11ha ?e11no ?e11iC ?e11tI ?e11kC ?e11eC ?e11tC ?e11hC ?e11hm ?e11cC ?e11sL ?e11sV ?li11 ?ci11 ?ki11 ?e12 ?e12x ?e12sa ?e12ga ?e12gg ?e12ha ?e12no ?e12iC ?e12tI ?e12kC ?e12eC ?e12tC ?e12hC ?e12hm ?e12cC ?e12sL ?e12sV ?li12 ?ci12 ?ki12 ?s0_0 ?s0_1 ?s0_2 ?s0_3 ?s0_4 ?s0_5 ?s0_6 ?s0_7 ?s0_8 ?s0_9 ?s0_10 ?s0_11 ?s0_12 ?s1_0 ?s1_1 ?s1_2 ?s1_3 ?s1_4 ?s1_5 ?s1_6 ?s1_7 ?s1_8 ?s1_9 ?s1_10 ?s1_11 ?s1_12 ?s2_0 ?s2_1 ?s2_2 ?s2_3 ?s2_4 ?s2_5 ?s2_6 ?s2_7 ?s2_8 ?s2_9 ?s2_10 ?s2_11 ?s2_12 ?s3_0 ?s3_1 ?s3_2 ?s3_3 ?s3_4 ?s3_5 ?s3_6 ?s3_7 ?s3_8 ?s3_9 ?s3_10 ?s3_11 ?s3_12 ?s4_0 ?s4_1 ?s4_2 ?s4_3 ?s4_4 ?s4_5 ?s4_6 ?s4_7 ?s4_8 ?s4_9 ?s4_10 ?s4_11 ?s4_12 ?s5_0 ?s5_1 ?s5_2 ?s5_3 ?s5_4 ?s5_5 ?s5_6 ?s5_7 ?s5_8 ?s5_9 ?s5_10 ?s5_11 ?s5_12 ?s6_0 ?s6_1 ?s6_2 ?s6_3 ?s6_4 ?s6_5 ?s6_6 ?s6_7 ?s6_8 ?s6_9 ?s6_10 ?s6_11 ?s6_12 ?s7_0 ?s7_1 ?s7_2 ?s7_3 ?s7_4 ?s7_5 ?s7_6 ?s7_7 ?s7_8 ?s7_9 ?s7_10 ?s7_11 ?s7_12 ?s8_0 ?s8_1 ?s8_2 ?s8_3 ?s8_4 ?s8_5 ?s8_6 ?s8_7 ?s8_8 ?s8_9 ?s8_10 ?s8_11 ?s8_12 ?s9_0 ?s9_1 ?s9_2 ?s9_3 ?s9_4 ?s9_5 ?s9_6 ?s9_7 ?s9_8 ?s9_9 ?s9_10 ?s9_11 ?s9_12 ?s10_0 ?s10_1 ?s10_2 ?s10_3 ?s10_4 ?s10_5 ?s10_6 ?s10_7 ?s10_8 ?s10_9 ?s10_10 ?s10_11 ?s10_12 ?s11_0 ?s11_1 ?s11_2 ?s11_3 ?s11_4 ?s11_5 ?s11_6 ?s11_7 ?s11_8 ?s11_9 ?s11_10 ?s11_11 ?s11_12 ?s12_0 ?s12_1 ?s12_2 ?s12_3 ?s12_4 ?s12_5 ?s12_6 ?s12_7 ?s12_8 ?s12_9 ?s12_10 ?s12_11 ?s12_12
    (case a1 => k_is)
    (case l1 => k_is)
    (case c1 => k_is)
    (case k1 => k_is)
    (case a2 => k_is)
    (case l2 => k_is)
    (case c2 => k_is)
    (case k2 => k_is)
    (case a3 => k_is)
    (case l3 => k_is)
    (case c3 => k_is)
    (case k3 => k_is)
    (case a4 => k_is)
    (case l4 => k_is)
    (case c4 => k_is)
    (case k4 => k_is)
    (case a5 => k_is)
    (case l5 => k_is)
    (case c5 => k_is)
    (case k5 => k_is)
    (case a6 => k_is)
    (case l6 => k_is)
    (case c6 => k_is)
    (case k6 => k_is)
    (case a7 => k_is)
    (case l7 => k_is)
    (case c7 => k_is)
    (case k7 => k_is)
    (case a8 => k_is)
    (case l8 => k_is)
    (case c8 => k_is)
    (case k8 => k_is)
    (case a9 => k_is)
    (case l9 => k_is)
    (case c9 => k_is)
    (case k9 => k_is)
    (case a10 => k_is)
    (case l10 => k_is)
    (case c10 => k_is)
    (case k10 => k_is)
    (case a11 => k_is)
    (case l11 => k_is)
    (case c11 => k_is)
    (case k11 => k_is)
    (case a12 => k_is)
    (case l12 => k_is)
    (case c12 => k_is)
    (case k12 => k_is)
    (case a13 => k_is)
    (case l13 => k_is)
    (case c13 => k_is)
    (case k13 => k_is)
    (case a14 => k_is)
    (case l14 => k_is)
    (case c14 => k_is)
    (case k14 => k_is)
    (case a15 => k_is)
    (case l15 => k_is)
    (case c15 => k_is)
    (case k15 => k_is)
    (case a16 => k_is)
    (case l16 => k_is)
    (case c16 => k_is)
    (case k16 => k_is)
    (case a17 => k_is)
    (case l17 => k_is)
    (case c17 => k_is)
    (case k17 => k_is)
    (case a18 => k_is)
    (case l18 => k_is)
    (case c18 => k_is)
    (case k18 => k_is)
    (case a19 => k_is)
    (case l19 => k_is)
    (case c19 => k_is)
    (case k19 => k_is)
    (case a20 => k_is)
    (case l20 => k_is)
    (case c20 => k_is)
    (case k20 => k_is)
    (case z1 => k_is)
    (case z2 => k_is)
    (case z3 => k_is)
    (case z4 => k_is)
    (case z5 => k_is)
    (case z6 => k_is)
    (case z7 => k_is)
    (case z8 => k_is)
    (case z9 => k_is)
    (case z10 => k_is)
    (case z11 => k_is)
    (case z12 => k_is)
    (case z13 => k_is)
    (case z14 => k_is)
    (case g1 => k_is)
    (case g2 => k_is)
    (case g3 => k_is)
    (case eL => k_is)
    (case eLc => k_is)
    (case eLt => k_is)
    (case kn => k_is)
    (case kt => k_is)
    (case e0 => k_is)
    (case e0x => k_is)
    (case e0sa => k_is)
    (case e0ga => k_is)
    (case e0gg => k_is)
    (case e0ha => k_is)
    (case e0no => k_is)
    (case e0iC => k_is)
    (case e0tI => k_is)
    (case e0kC => k_is)
    (case e0eC => k_is)
    (case e0tC => k_is)
    (case e0hC => k_is)
    (case e0hm => k_is)
    (case e0cC => k_is)
    (case e0sL => k_is)
    (case e0sV => k_is)
    (case li0 => k_is)
    (case ci0 => k_is)
    (case ki0 => k_is)
    (case e1 => k_is)
    (case e1x => k_is)
    (case e1sa => k_is)
    (case e1ga => k_is)
    (case e1gg => k_is)
    (case e1ha => k_is)
    (case e1no => k_is)
    (case e1iC => k_is)
    (case e1tI => k_is)
    (case e1kC => k_is)
    (case e1eC => k_is)
    (case e1tC => k_is)
    (case e1hC => k_is)
    (case e1hm => k_is)
    (case e1cC => k_is)
    (case e1sL => k_is)
    (case e1sV => k_is)
    (case li1 => k_is)
    (case ci1 => k_is)
    (case ki1 => k_is)
    (case e2 => k_is)
    (case e2x => k_is)
    (case e2sa => k_is)
    (case e2ga => k_is)
    (case e2gg => k_is)
    (case e2ha => k_is)
    (case e2no => k_is)
    (case e2iC => k_is)
    (case e2tI => k_is)
    (case e2kC => k_is)
    (case e2eC => k_is)
    (case e2tC => k_is)
    (case e2hC => k_is)
    (case e2hm => k_is)
    (case e2cC => k_is)
    (case e2sL => k_is)
    (case e2sV => k_is)
    (case li2 => k_is)
    (case ci2 => k_is)
    (case ki2 => k_is)
    (case e3 => k_is)
    (case e3x => k_is)
    (case e3sa => k_is)
    (case e3ga => k_is)
    (case e3gg => k_is)
    (case e3ha => k_is)
    (case e3no => k_is)
    (case e3iC => k_is)
    (case e3tI => k_is)
    (case e3kC => k_is)
    (case e3eC => k_is)
    (case e3tC => k_is)
    (case e3hC => k_is)
    (case e3hm => k_is)
    (case e3cC => k_is)
    (case e3sL => k_is)
    (case e3sV => k_is)
    (case li3 => k_is)
    (case ci3 => k_is)
    (case ki3 => k_is)
    (case e4 => k_is)
    (case e4x => k_is)
    (case e4sa => k_is)
    (case e4ga => k_is)
    (case e4gg => k_is)
    (case e4ha => k_is)
    (case e4no => k_is)
    (case e4iC => k_is)
    (case e4tI => k_is)
    (case e4kC => k_is)
    (case e4eC => k_is)
    (case e4tC => k_is)
    (case e4hC => k_is)
    (case e4hm => k_is)
    (case e4cC => k_is)
    (case e4sL => k_is)
    (case e4sV => k_is)
    (case li4 => k_is)
    (case ci4 => k_is)
    (case ki4 => k_is)
    (case e5 => k_is)
    (case e5x => k_is)
    (case e5sa => k_is)
    (case e5ga => k_is)
    (case e5gg => k_is)
    (case e5ha => k_is)
    (case e5no => k_is)
    (case e5iC => k_is)
    (case e5tI => k_is)
    (case e5kC => k_is)
    (case e5eC => k_is)
    (case e5tC => k_is)
    (case e5hC => k_is)
    (case e5hm => k_is)
    (case e5cC => k_is)
    (case e5sL => k_is)
    (case e5sV => k_is)
    (case li5 => k_is)
    (case ci5 => k_is)
    (case ki5 => k_is)
    (case e6 => k_is)
    (case e6x => k_is)
    (case e6sa => k_is)
    (case e6ga => k_is)
    (case e6gg => k_is)
    (case e6ha => k_is)
    (case e6no => k_is)
    (case e6iC => k_is)
    (case e6tI => k_is)
    (case e6kC => k_is)
    (case e6eC => k_is)
    (case e6tC => k_is)
    (case e6hC => k_is)
    (case e6hm => k_is)
    (case e6cC => k_is)
    (case e6sL => k_is)
    (case e6sV => k_is)
    (case li6 => k_is)
    (case ci6 => k_is)
    (case ki6 => k_is)
    (case e7 => k_is)
    (case e7x => k_is)
    (case e7sa => k_is)
    (case e7ga => k_is)
    (case e7gg => k_is)
    (case e7ha => k_is)
    (case e7no => k_is)
    (case e7iC => k_is)
    (case e7tI => k_is)
    (case e7kC => k_is)
    (case e7eC => k_is)
    (case e7tC => k_is)
    (case e7hC => k_is)
    (case e7hm => k_is)
    (case e7cC => k_is)
    (case e7sL => k_is)
    (case e7sV => k_is)
    (case li7 => k_is)
    (case ci7 => k_is)
    (case ki7 => k_is)
    (case e8 => k_is)
    (case e8x => k_is)
    (case e8sa => k_is)
    (case e8ga => k_is)
    (case e8gg => k_is)
    (case e8ha => k_is)
    (case e8no => k_is)
    (case e8iC => k_is)
    (case e8tI => k_is)
    (case e8kC => k_is)
    (case e8eC => k_is)
    (case e8tC => k_is)
    (case e8hC => k_is)
    (case e8hm => k_is)
    (case e8cC => k_is)
    (case e8sL => k_is)
    (case e8sV => k_is)
    (case li8 => k_is)
    (case ci8 => k_is)
    (case ki8 => k_is)
    (case e9 => k_is)
    (case e9x => k_is)
    (case e9sa => k_is)
    (case e9ga => k_is)
    (case e9gg => k_is)
    (case e9ha => k_is)
    (case e9no => k_is)
    (case e9iC => k_is)
    (case e9tI => k_is)
    (case e9kC => k_is)
    (case e9eC => k_is)
    (case e9tC => k_is)
    (case e9hC => k_is)
    (case e9hm => k_is)
    (case e9cC => k_is)
    (case e9sL => k_is)
    (case e9sV => k_is)
    (case li9 => k_is)
    (case ci9 => k_is)
    (case ki9 => k_is)
    (case e10 => k_is)
    (case e10x => k_is)
    (case e10sa => k_is)
    (case e10ga => k_is)
    (case e10gg => k_is)
    (case e10ha => k_is)
    (case e10no => k_is)
    (case e10iC => k_is)
    (case e10tI => k_is)
    (case e10kC => k_is)
    (case e10eC => k_is)
    (case e10tC => k_is)
    (case e10hC => k_is)
    (case e10hm => k_is)
    (case e10cC => k_is)
    (case e10sL => k_is)
    (case e10sV => k_is)
    (case li10 => k_is)
    (case ci10 => k_is)
    (case ki10 => k_is)
    (case e11 => k_is)
    (case e11x => k_is)
    (case e11sa => k_is)
    (case e11ga => k_is)
    (case e11gg => k_is)
    (case e11ha => k_is)
    (case e11no => k_is)
    (case e11iC => k_is)
    (case e11tI => k_is)
    (case e11kC => k_is)
    (case e11eC => k_is)
    (case e11tC => k_is)
    (case e11hC => k_is)
    (case e11hm => k_is)
    (case e11cC => k_is)
    (case e11sL => k_is)
    (case e11sV => k_is)
    (case li11 => k_is)
    (case ci11 => k_is)
    (case ki11 => k_is)
    (case e12 => k_is)
    (case e12x => k_is)
    (case e12sa => k_is)
    (case e12ga => k_is)
    (case e12gg => k_is)
    (case e12ha => k_is)
    (case e12no => k_is)
    (case e12iC => k_is)
    (case e12tI => k_is)
    (case e12kC => k_is)
    (case e12eC => k_is)
    (case e12tC => k_is)
    (case e12hC => k_is)
    (case e12hm => k_is)
    (case e12cC => k_is)
    (case e12sL => k_is)
    (case e12sV => k_is)
    (case li12 => k_is)
    (case ci12 => k_is)
    (case ki12 => k_is)
    (case s0_0 => k_is)
    (case s0_1 => k_is)
    (case s0_2 => k_is)
    (case s0_3 => k_is)
    (case s0_4 => k_is)
    (case s0_5 => k_is)
    (case s0_6 => k_is)
    (case s0_7 => k_is)
    (case s0_8 => k_is)
    (case s0_9 => k_is)
    (case s0_10 => k_is)
    (case s0_11 => k_is)
    (case s0_12 => k_is)
    (case s1_0 => k_is)
    (case s1_1 => k_is)
    (case s1_2 => k_is)
    (case s1_3 => k_is)
    (case s1_4 => k_is)
    (case s1_5 => k_is)
    (case s1_6 => k_is)
    (case s1_7 => k_is)
    (case s1_8 => k_is)
    (case s1_9 => k_is)
    (case s1_10 => k_is)
    (case s1_11 => k_is)
    (case s1_12 => k_is)
    (case s2_0 => k_is)
    (case s2_1 => k_is)
    (case s2_2 => k_is)
    (case s2_3 => k_is)
    (case s2_4 => k_is)
    (case s2_5 => k_is)
    (case s2_6 => k_is)
    (case s2_7 => k_is)
    (case s2_8 => k_is)
    (case s2_9 => k_is)
    (case s2_10 => k_is)
    (case s2_11 => k_is)
    (case s2_12 => k_is)
    (case s3_0 => k_is)
    (case s3_1 => k_is)
    (case s3_2 => k_is)
    (case s3_3 => k_is)
    (case s3_4 => k_is)
    (case s3_5 => k_is)
    (case s3_6 => k_is)
    (case s3_7 => k_is)
    (case s3_8 => k_is)
    (case s3_9 => k_is)
    (case s3_10 => k_is)
    (case s3_11 => k_is)
    (case s3_12 => k_is)
    (case s4_0 => k_is)
    (case s4_1 => k_is)
    (case s4_2 => k_is)
    (case s4_3 => k_is)
    (case s4_4 => k_is)
    (case s4_5 => k_is)
    (case s4_6 => k_is)
    (case s4_7 => k_is)
    (case s4_8 => k_is)
    (case s4_9 => k_is)
    (case s4_10 => k_is)
    (case s4_11 => k_is)
    (case s4_12 => k_is)
    (case s5_0 => k_is)
    (case s5_1 => k_is)
    (case s5_2 => k_is)
    (case s5_3 => k_is)
    (case s5_4 => k_is)
    (case s5_5 => k_is)
    (case s5_6 => k_is)
    (case s5_7 => k_is)
    (case s5_8 => k_is)
    (case s5_9 => k_is)
    (case s5_10 => k_is)
    (case s5_11 => k_is)
    (case s5_12 => k_is)
    (case s6_0 => k_is)
    (case s6_1 => k_is)
    (case s6_2 => k_is)
    (case s6_3 => k_is)
    (case s6_4 => k_is)
    (case s6_5 => k_is)
    (case s6_6 => k_is)
    (case s6_7 => k_is)
    (case s6_8 => k_is)
    (case s6_9 => k_is)
    (case s6_10 => k_is)
    (case s6_11 => k_is)
    (case s6_12 => k_is)
    (case s7_0 => k_is)
    (case s7_1 => k_is)
    (case s7_2 => k_is)
    (case s7_3 => k_is)
    (case s7_4 => k_is)
    (case s7_5 => k_is)
    (case s7_6 => k_is)
    (case s7_7 => k_is)
    (case s7_8 => k_is)
    (case s7_9 => k_is)
    (case s7_10 => k_is)
    (case s7_11 => k_is)
    (case s7_12 => k_is)
    (case s8_0 => k_is)
    (case s8_1 => k_is)
    (case s8_2 => k_is)
    (case s8_3 => k_is)
    (case s8_4 => k_is)
    (case s8_5 => k_is)
    (case s8_6 => k_is)
    (case s8_7 => k_is)
    (case s8_8 => k_is)
    (case s8_9 => k_is)
    (case s8_10 => k_is)
    (case s8_11 => k_is)
    (case s8_12 => k_is)
    (case s9_0 => k_is)
    (case s9_1 => k_is)
    (case s9_2 => k_is)
    (case s9_3 => k_is)
    (case s9_4 => k_is)
    (case s9_5 => k_is)
    (case s9_6 => k_is)
    (case s9_7 => k_is)
    (case s9_8 => k_is)
    (case s9_9 => k_is)
    (case s9_10 => k_is)
    (case s9_11 => k_is)
    (case s9_12 => k_is)
    (case s10_0 => k_is)
    (case s10_1 => k_is)
    (case s10_2 => k_is)
    (case s10_3 => k_is)
    (case s10_4 => k_is)
    (case s10_5 => k_is)
    (case s10_6 => k_is)
    (case s10_7 => k_is)
    (case s10_8 => k_is)
    (case s10_9 => k_is)
    (case s10_10 => k_is)
    (case s10_11 => k_is)
    (case s10_12 => k_is)
    (case s11_0 => k_is)
    (case s11_1 => k_is)
    (case s11_2 => k_is)
    (case s11_3 => k_is)
    (case s11_4 => k_is)
    (case s11_5 => k_is)
    (case s11_6 => k_is)
    (case s11_7 => k_is)
    (case s11_8 => k_is)
    (case s11_9 => k_is)
    (case s11_10 => k_is)
    (case s11_11 => k_is)
    (case s11_12 => k_is)
    (case s12_0 => k_is)
    (case s12_1 => k_is)
    (case s12_2 => k_is)
    (case s12_3 => k_is)
    (case s12_4 => k_is)
    (case s12_5 => k_is)
    (case s12_6 => k_is)
    (case s12_7 => k_is)
    (case s12_8 => k_is)
    (case s12_9 => k_is)
    (case s12_10 => k_is)
    (case s12_11 => k_is)
    (case s12_12 => k_is)
