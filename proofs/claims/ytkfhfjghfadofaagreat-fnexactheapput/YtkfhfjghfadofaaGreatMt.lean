/- Which methods the kinds have. -/
import Derived.Test.YtkfhfjghfadofaaGreatMgb
namespace Go.Proofs.YtkfhfjghfadofaaGreat
open Go.RowKit
theorem m_key_int (v : Value) (w : World) : (method 315 189 v "loop.example/g00252/impl.keyPart").run Tryz.prog w = .ok (199, v) w := by kernel_rfl
theorem m_key_float (v : Value) (w : World) : (method 315 190 v "loop.example/g00252/impl.keyPart").run Tryz.prog w = .ok (203, v) w := by kernel_rfl
theorem m_key_text (v : Value) (w : World) : (method 315 191 v "loop.example/g00252/impl.keyPart").run Tryz.prog w = .ok (206, v) w := by kernel_rfl
theorem m_val_int (v : Value) (w : World) : (method 315 189 v "loop.example/g00252/impl.valuePart").run Tryz.prog w = .ok (200, v) w := by kernel_rfl
theorem m_val_float (v : Value) (w : World) : (method 315 190 v "loop.example/g00252/impl.valuePart").run Tryz.prog w = .ok (204, v) w := by kernel_rfl
theorem m_val_text (v : Value) (w : World) : (method 315 191 v "loop.example/g00252/impl.valuePart").run Tryz.prog w = .ok (207, v) w := by kernel_rfl
end Go.Proofs.YtkfhfjghfadofaaGreat
